/- Texts of mine, joined: ListM2, Law07a, Law07b, Law07d, Law07c, Fork, Law07e, Law09a, Ls, FirstM, Law09c, Law10b. -/
import Derived.Test.YtjokbjmfnidmjaaM7
import Derived.Great.BuildSlice

/- Lists of free blocks in bytes: what Take comes to where the lists are right. No program in sight. -/
namespace Go.Proofs.Ytjokbjmfnidmjaa

section
variable {bs : List UInt8} {P : List Bk} {L : Nat → List Nat}
theorem Lists.take (h : Lists bs P L) {x : Bk} (hx : x ∈ P) {c : Nat} (hc22 : c < 22) (ho : x.off ∈ L c) :
    ∃ bs', takeB bs (x.off : Int) = some bs' ∧ Lists bs' P (setL L c ((L c).filter fun q => decide (q ≠ x.off))) ∧ bs'.length = bs.length ∧ Kept P bs bs' := by
  have hf := h.st.facts hx
  have hlen := h.len
  have hsm := h.small
  obtain ⟨hxu, hxc⟩ : x.used = false ∧ classI (x.size : Int) = (c : Int) := by
    obtain ⟨y, hy, e, hu, hcl⟩ := h.mem c hc22 x.off ho
    have := h.st.uniq hy hx e
    subst this
    exact ⟨hu, hcl⟩
  have hfr : freeI bs (x.off : Int) = (c : Int) := by unfold freeI; rw [h.st.at_ x hx]; simp [hxu, hxc]
  obtain ⟨l1, l2, hL⟩ := List.append_of_mem ho
  have hnd := h.nodup c hc22
  have hlk := h.links c hc22
  rw [hL] at hnd hlk
  have hn1 : x.off ∉ l1 := fun e => by
    have := (List.nodup_append.1 hnd).2.2 x.off e x.off (by simp)
    exact this rfl
  have hn2 : x.off ∉ l2 := (List.nodup_cons.1 (List.nodup_append.1 hnd).2.1).1
  have hnd12 : (l1 ++ l2).Nodup := by
    refine List.nodup_append.2 ⟨(List.nodup_append.1 hnd).1, (List.nodup_cons.1 (List.nodup_append.1 hnd).2.1).2, fun a ha b hb => ?_⟩
    exact (List.nodup_append.1 hnd).2.2 a ha b (by simp [hb])
  have hfil : (L c).filter (fun q => decide (q ≠ x.off)) = l1 ++ l2 := by
    rw [hL, List.filter_append, List.filter_cons_of_neg (by simp)]
    congr 1
    · exact List.filter_eq_self.2 fun a ha => by simpa using fun e : a = x.off => hn1 (e ▸ ha)
    · exact List.filter_eq_self.2 fun a ha => by simpa using fun e : a = x.off => hn2 (e ▸ ha)
  rw [hfil]
  rw [link_append] at hlk
  obtain ⟨hk1, hk2, hk3, hk4⟩ := hlk
  obtain ⟨p, hp⟩ : ∃ p, l1.getLastD 0 = p := ⟨_, rfl⟩
  obtain ⟨n, hn⟩ : ∃ n, l2.headD 0 = n := ⟨_, rfl⟩
  rw [hp] at hk2
  rw [hn] at hk3
  -- what is ahead, and what is behind
  have inP : ∀ q, q ∈ L c → memberB bs q (c : Int) = true ∧ ∃ y ∈ P, y.off = q ∧ y.used = false := fun q hq => by
    obtain ⟨m, y, hy, e, hu, _⟩ := h.member hc22 hq
    exact ⟨m, y, hy, e, hu⟩
  have hpc : (l1 = [] ∧ p = 0) ∨ ∃ l, l1 = l ++ [p] ∧ p ∈ L c ∧ p ≠ x.off := by
    rcases List.eq_nil_or_concat l1 with e | ⟨l, q, e⟩
    · left; subst e; exact ⟨rfl, hp.symm⟩
    · right
      subst e
      have : q = p := by rw [← hp]; simp
      subst this
      exact ⟨l, by simp, by rw [hL]; simp, fun e => hn1 (by rw [← e]; simp)⟩
  have hnc : (l2 = [] ∧ n = 0) ∨ ∃ r, l2 = n :: r ∧ n ∈ L c ∧ n ≠ x.off := by
    cases l2 with
    | nil => left; exact ⟨rfl, hn.symm⟩
    | cons q r =>
      right
      obtain rfl : q = n := hn
      exact ⟨r, rfl, by rw [hL]; simp, fun e => hn2 (by rw [← e]; simp)⟩
  have hpn : p ≠ 0 → n ≠ 0 → p ≠ n := fun e1 e2 e => by
    rcases hpc with ⟨_, e0⟩ | ⟨l, el, _⟩
    · exact e1 e0
    · rcases hnc with ⟨_, e0⟩ | ⟨r, er, _⟩
      · exact e2 e0
      · have := (List.nodup_append.1 hnd12).2.2 p (by rw [el]; simp) n (by rw [er]; simp)
        exact this e
  have hplt : p < 18446744073709551616 := by rw [← hk2]; exact wordN_lt _ _
  have hnlt : n < 18446744073709551616 := by rw [← hk3]; exact wordN_lt _ _
  have hfirst : ¬ (p ≠ 0 ∧ (wordN bs (8 + 8 * c) : Int) = (x.off : Int)) := by
    rintro ⟨e1, e2⟩
    rcases hpc with ⟨_, e0⟩ | ⟨l, el, _⟩
    · exact e1 e0
    · have hh := h.head c hc22
      rw [hL, el] at hh
      refine hn1 ?_
      rw [el]
      cases l with
      | nil =>
        have hh : wordN bs (8 + 8 * c) = p := hh
        rw [show x.off = p by omega]
        simp
      | cons q r =>
        have hh : wordN bs (8 + 8 * c) = q := hh
        rw [show x.off = q by omega]
        simp
  have hput : takeB bs (x.off : Int) = some (markB (if n ≠ 0 then lyN (if p = 0 then lyN bs (8 + 8 * c) n else lyN bs (p + 8) n) (n + 16) p else (if p = 0 then lyN bs (8 + 8 * c) n else lyN bs (p + 8) n)) c) := by
    unfold takeB
    rw [hfr, if_neg (by omega)]
    simp only [Int.toNat_natCast, hk2, hk3]
    rw [if_neg, if_neg, if_neg, if_neg hfirst]
    · rintro ⟨e1, e2⟩
      rcases hnc with ⟨_, e0⟩ | ⟨r, er, hm, _⟩
      · exact e1 e0
      · rcases e2 with e2 | e2
        · rw [(inP n hm).1] at e2; cases e2
        · rw [er] at hk4
          exact e2 (by rw [hk4.1])
    · rintro ⟨e1, e2⟩
      rcases hpc with ⟨_, e0⟩ | ⟨l, el, hm, _⟩
      · exact e1 e0
      · rcases e2 with e2 | e2
        · rw [(inP p hm).1] at e2; cases e2
        · rw [el, link_append] at hk1
          exact e2 (by rw [hk1.2.2.1]; rfl)
    · rintro ⟨e1, e2⟩
      rcases hpc with ⟨e0, _⟩ | ⟨l, el, hm, _⟩
      · have := h.head c hc22
        rw [hL, e0] at this
        exact e2 (by rw [this]; rfl)
      · obtain ⟨_, y, hy, e, _⟩ := inP p hm
        have := h.st.facts hy
        omega
  obtain ⟨b1, hb1⟩ : ∃ b1, (if p = 0 then lyN bs (8 + 8 * c) n else lyN bs (p + 8) n) = b1 := ⟨_, rfl⟩
  have f1 : b1.length = bs.length ∧ Stands b1 P ∧ (∀ q, q % 8 = 0 → wordN b1 q = if q = (if p = 0 then 8 + 8 * c else p + 8) then n else wordN bs q) ∧ Kept P bs b1 := by
    rcases hpc with ⟨_, e0⟩ | ⟨l, el, hm, _⟩
    · rw [if_pos e0] at hb1
      subst hb1
      refine ⟨lyN_length _ _ _ (by omega), h.st.lay _ _ (.inl (by omega)) hlen, fun q hq => ?_, Kept.ly P _ _ _ (by omega) (.inl (by omega))⟩
      rw [wordN_ly _ _ _ _ (by omega) hnlt hq (by omega), if_pos e0]
    · obtain ⟨_, y, hy, e, hu⟩ := inP p hm
      have hy' := h.st.facts hy
      have e0 : p ≠ 0 := by omega
      rw [if_neg e0] at hb1
      subst hb1
      refine ⟨lyN_length _ _ _ (by omega), h.st.lay _ _ (.inr ⟨y, hy, by omega, by omega⟩) hlen, fun q hq => ?_, Kept.ly P _ _ _ (by omega) (.inr ⟨y, hy, hu, .inl (by omega)⟩)⟩
      rw [wordN_ly _ _ _ _ (by omega) hnlt hq (by omega), if_neg e0]
  obtain ⟨g1, st1, w1, k1⟩ := f1
  rw [hb1] at hput
  obtain ⟨b2, hb2⟩ : ∃ b2, (if n ≠ 0 then lyN b1 (n + 16) p else b1) = b2 := ⟨_, rfl⟩
  have f2 : b2.length = bs.length ∧ Stands b2 P ∧ (∀ q, q % 8 = 0 → wordN b2 q = if n ≠ 0 ∧ q = n + 16 then p else wordN b1 q) ∧ Kept P b1 b2 := by
    rcases hnc with ⟨_, e0⟩ | ⟨r, er, hm, _⟩
    · rw [if_neg (by omega)] at hb2
      subst hb2
      exact ⟨g1, st1, fun q _ => by rw [if_neg (by omega)], Kept.refl _ _⟩
    · obtain ⟨_, y, hy, e, hu⟩ := inP n hm
      have hy' := h.st.facts hy
      have e0 : n ≠ 0 := by omega
      rw [if_pos e0] at hb2
      subst hb2
      refine ⟨by rw [lyN_length _ _ _ (by omega)]; exact g1, st1.lay _ _ (.inr ⟨y, hy, by omega, by omega⟩) (by omega), fun q hq => ?_, Kept.ly P _ _ _ (by omega) (.inr ⟨y, hy, hu, .inr (by omega)⟩)⟩
      rw [wordN_ly _ _ _ _ (by omega) hplt hq (by omega)]
      by_cases e2 : q = n + 16
      · rw [if_pos e2, if_pos ⟨e0, e2⟩]
      · rw [if_neg e2, if_neg (fun h => e2 h.2)]
  obtain ⟨g2, st2, w2, k2⟩ := f2
  rw [hb2] at hput
  obtain ⟨m1, m2, m3, m4, m5⟩ := markB_spec b2 c hc22 (by omega)
  have n184 : n = 0 ∨ (184 ≤ n ∧ n % 16 = 8) := by
    rcases hnc with ⟨_, e0⟩ | ⟨r, er, hm, _⟩
    · exact .inl e0
    · obtain ⟨_, y, hy, e, _⟩ := inP n hm
      have := h.st.facts hy; omega
  have p184 : p = 0 ∨ (184 ≤ p ∧ p % 16 = 8) := by
    rcases hpc with ⟨_, e0⟩ | ⟨r, er, hm, _⟩
    · exact .inl e0
    · obtain ⟨_, y, hy, e, _⟩ := inP p hm
      have := h.st.facts hy; omega
  have hhead : wordN b2 (8 + 8 * c) = (l1 ++ l2).headD 0 := by
    rw [w2 _ (by omega), if_neg (by omega), w1 _ (by omega)]
    have hh := h.head c hc22
    rw [hL] at hh
    rcases hpc with ⟨el, e0⟩ | ⟨l, el, _⟩
    · rw [if_pos e0, if_pos rfl, el, ← hn]; rfl
    · have e0 : p ≠ 0 := by
        rcases p184 with e | e
        · obtain ⟨_, y, hy, e2, _⟩ := inP p (by rw [hL, el]; simp)
          have := h.st.facts hy; omega
        · omega
      rw [if_neg e0, if_neg (by omega), hh, el]
      cases l <;> rfl
  have hw : ∀ o, (∃ y ∈ P, y.off = o) → ∀ k, k = 8 ∨ k = 16 → wordN (markB b2 c) (o + k) = if p ≠ 0 ∧ o = p ∧ k = 8 then n else if n ≠ 0 ∧ o = n ∧ k = 16 then p else wordN bs (o + k) := by
    rintro o ⟨y, hy, rfl⟩ k hk
    have hy' := h.st.facts hy
    rw [m2 _ (by omega) (by omega), w2 _ (by omega), w1 _ (by omega)]
    by_cases e1 : p ≠ 0 ∧ y.off = p ∧ k = 8
    · rw [if_pos e1, if_neg (by omega), if_pos (by rw [if_neg e1.1]; omega)]
    · rw [if_neg e1]
      by_cases e2 : n ≠ 0 ∧ y.off = n ∧ k = 16
      · rw [if_pos e2, if_pos (by omega)]
      · rw [if_neg e2, if_neg (by omega), if_neg]
        by_cases e0 : p = 0
        · rw [if_pos e0]; omega
        · rw [if_neg e0]; omega
  refine ⟨_, hput, ⟨by omega, by omega, m4 P st2, fun d hd => ?_, fun d hd => ?_, fun d hd o ho => ?_, fun d hd => ?_, fun d hd => ?_⟩, by omega, (k1.trans k2).trans fun i h1 _ => m5 i (by omega)⟩
  · rw [m2 _ (by omega) (by omega)]
    unfold setL
    by_cases hdc : d = c
    · subst hdc; rw [if_pos rfl]; exact hhead
    · rw [if_neg hdc, ← h.head d hd, w2 _ (by omega), if_neg (by omega), w1 _ (by omega), if_neg]
      by_cases e0 : p = 0
      · rw [if_pos e0]; omega
      · rw [if_neg e0]; omega
  · rw [m3 d]
    unfold setL
    by_cases hdc : d = c
    · rw [if_pos hdc, if_pos hdc, hhead]
      cases hl : l1 ++ l2 with
      | nil => rfl
      | cons q r =>
        have hq : q ∈ L c := by
          rw [hL]
          have : q ∈ l1 ++ l2 := by rw [hl]; simp
          rcases List.mem_append.1 this with h1 | h1
          · exact List.mem_append_left _ h1
          · exact List.mem_append_right _ (List.mem_cons_of_mem _ h1)
        obtain ⟨_, y, hy, e, _⟩ := inP q hq
        have := h.st.facts hy
        have h0 : q ≠ 0 := by omega
        simp [h0]
    · rw [if_neg hdc, if_neg hdc, ← h.bit d hd, w2 _ rfl, if_neg (by omega), w1 _ rfl, if_neg]
      by_cases e0 : p = 0
      · rw [if_pos e0]; omega
      · rw [if_neg e0]; omega
  · unfold setL at ho
    by_cases hdc : d = c
    · subst hdc
      rw [if_pos rfl] at ho
      refine h.mem d hd o ?_
      rw [hL]
      rcases List.mem_append.1 ho with h1 | h1
      · exact List.mem_append_left _ h1
      · exact List.mem_append_right _ (List.mem_cons_of_mem _ h1)
    · rw [if_neg hdc] at ho
      exact h.mem d hd o ho
  · unfold setL
    by_cases hdc : d = c
    · subst hdc
      rw [if_pos rfl, link_append, hp, hn]
      have inl1 : ∀ q ∈ l1, ∃ y ∈ P, y.off = q := fun q hq => by
        obtain ⟨_, y, hy, e, _⟩ := inP q (by rw [hL]; simp [hq])
        exact ⟨y, hy, e⟩
      have inl2 : ∀ q ∈ l2, ∃ y ∈ P, y.off = q := fun q hq => by
        obtain ⟨_, y, hy, e, _⟩ := inP q (by rw [hL]; simp [hq])
        exact ⟨y, hy, e⟩
      have ne12 : ∀ q ∈ l1, n ≠ 0 → q ≠ n := fun q hq e0 e => by
        rcases hnc with ⟨_, e1⟩ | ⟨r, er, _⟩
        · exact e0 e1
        · exact (List.nodup_append.1 hnd12).2.2 q hq n (by rw [er]; simp) e
      have ne21 : ∀ q ∈ l2, p ≠ 0 → q ≠ p := fun q hq e0 e => by
        rcases hpc with ⟨_, e1⟩ | ⟨l, el, _⟩
        · exact e0 e1
        · exact (List.nodup_append.1 hnd12).2.2 p (by rw [el]; simp) q hq e.symm
      refine ⟨?_, ?_⟩
      · rcases hpc with ⟨el, e0⟩ | ⟨l, el, _⟩
        · rw [el]; trivial
        · have e0 : p ≠ 0 := by
            obtain ⟨y, hy, e2⟩ := inl1 p (by rw [el]; simp)
            have := h.st.facts hy; omega
          rw [el, link_append] at hk1 ⊢
          obtain ⟨hq1, hq2, hq3, _⟩ := hk1
          have hpl : p ∉ l := fun e => by
            have := (List.nodup_append.1 hnd12).1
            rw [el] at this
            exact (List.nodup_append.1 this).2.2 p e p (by simp) rfl
          refine ⟨link_congr l _ _ (fun q hq => ?_) hq1, ?_, ?_, trivial⟩
          · have hqi := inl1 q (by rw [el]; simp [hq])
            have hqp : q ≠ p := fun e => hpl (e ▸ hq)
            have hqn := ne12 q (by rw [el]; simp [hq])
            rw [hw q hqi 16 (.inr rfl), hw q hqi 8 (.inl rfl), if_neg (by omega), if_neg (fun e => hqn e.1 e.2.1), if_neg (fun e => hqp e.2.1), if_neg (by omega)]
            exact ⟨rfl, rfl⟩
          · rw [hw p (inl1 p (by rw [el]; simp)) 16 (.inr rfl), if_neg (by omega), if_neg (fun e => hpn e0 e.1 e.2.1)]
            exact hq2
          · rw [hw p (inl1 p (by rw [el]; simp)) 8 (.inl rfl), if_pos ⟨e0, rfl, rfl⟩]
            rfl
      · rcases hnc with ⟨er, e0⟩ | ⟨r, er, _⟩
        · rw [er]; trivial
        · have e0 : n ≠ 0 := by
            obtain ⟨y, hy, e2⟩ := inl2 n (by rw [er]; simp)
            have := h.st.facts hy; omega
          rw [er] at hk4 ⊢
          obtain ⟨hq1, hq2, hq3⟩ := hk4
          have hnr : n ∉ r := fun e => by
            have := (List.nodup_append.1 hnd12).2.1
            rw [er] at this
            exact (List.nodup_cons.1 this).1 e
          refine ⟨?_, ?_, link_congr r _ _ (fun q hq => ?_) hq3⟩
          · rw [hw n (inl2 n (by rw [er]; simp)) 16 (.inr rfl), if_neg (by omega), if_pos ⟨e0, rfl, rfl⟩]
          · rw [hw n (inl2 n (by rw [er]; simp)) 8 (.inl rfl), if_neg (fun e => ne21 n (by rw [er]; simp) e.1 e.2.1), if_neg (by omega)]
            exact hq2
          · have hqi := inl2 q (by rw [er]; simp [hq])
            have hqn : q ≠ n := fun e => hnr (e ▸ hq)
            have hqp := ne21 q (by rw [er]; simp [hq])
            rw [hw q hqi 16 (.inr rfl), hw q hqi 8 (.inl rfl), if_neg (by omega), if_neg (fun e => hqn e.2.1), if_neg (fun e => hqp e.1 e.2.1), if_neg (by omega)]
            exact ⟨rfl, rfl⟩
    · rw [if_neg hdc]
      refine link_congr (L d) _ _ (fun q hq => ?_) (h.links d hd)
      obtain ⟨y, hy, e, _, hcl⟩ := h.mem d hd q hq
      have other : ∀ z, z ∈ L c → q ≠ z := fun z hz e2 => by
        obtain ⟨z2, hz2, e3, _, hcl2⟩ := h.mem c hc22 z hz
        have := h.st.uniq hy hz2 (by omega)
        subst this
        rw [hcl] at hcl2; omega
      have hqp : ¬ (p ≠ 0 ∧ q = p) := by
        rintro ⟨e1, e2⟩
        rcases hpc with ⟨_, e0⟩ | ⟨l, el, hm, _⟩
        · exact e1 e0
        · exact other p hm e2
      have hqn : ¬ (n ≠ 0 ∧ q = n) := by
        rintro ⟨e1, e2⟩
        rcases hnc with ⟨_, e0⟩ | ⟨l, el, hm, _⟩
        · exact e1 e0
        · exact other n hm e2
      rw [hw q ⟨y, hy, e⟩ 16 (.inr rfl), hw q ⟨y, hy, e⟩ 8 (.inl rfl), if_neg (fun e => hqp ⟨e.1, e.2.1⟩), if_neg (fun e => hqn ⟨e.1, e.2.1⟩), if_neg (fun e => hqp ⟨e.1, e.2.1⟩), if_neg (fun e => hqn ⟨e.1, e.2.1⟩)]
      exact ⟨rfl, rfl⟩
  · unfold setL
    by_cases hdc : d = c
    · rw [if_pos hdc]; exact hnd12
    · rw [if_neg hdc]; exact h.nodup d hd
end
end Go.Proofs.Ytjokbjmfnidmjaa

/- Layer 7's laws: the head (the document's example). -/
namespace Go.Proofs.Ytjokbjmfnidmjaa
open Go.RowKit

theorem Ar.alloc' {w : World} {t : TypeId} {g base cap c : Nat} {A : Option Addr} {bs : List UInt8} (h : Ar w t g base cap A c bs) (o : Obj) : Ar (w.alloc o) t g base cap A c bs := h.below ((Below.refl _ _).alloc (Nat.le_refl _) o)

theorem up7_bytes : ∃ z out : List UInt8, List.replicate 248 (0 : UInt8) = z ∧ z.length = 248 ∧ out.length = 248 ∧ setB z 184 64 true = some out ∧ getB out 184 = some ⟨184, 64, true⟩ ∧ walkB out = some [⟨184, 64, true⟩] ∧ aheadB out 248 = some ⟨184, 64, true⟩ ∧ setB out 184 80 false = none := by
  have hzl : (List.replicate 248 (0 : UInt8)).length = 248 := List.length_replicate
  generalize List.replicate 248 (0 : UInt8) = z at *
  have hs := setB_of z ⟨184, 64, true⟩ (by decide) (by decide) (by rw [hzl]; decide) (by decide)
  have hg := setT_at (bs := z) (x := ⟨184, 64, true⟩) (by decide) (by decide) (by rw [hzl]; decide) (by decide)
  have hl := setT_length (bs := z) (x := ⟨184, 64, true⟩) (by decide) (by rw [hzl]; decide)
  rw [hzl] at hl
  generalize setT z ⟨184, 64, true⟩ = out at *
  have hw : walkB out = some [⟨184, 64, true⟩] := walkB_tile (by rw [hl]; exact ⟨rfl, by decide, rfl⟩) (fun x hx => by rw [List.mem_singleton] at hx; subst hx; exact hg)
  have ha := aheadB_of hg
  refine ⟨z, out, rfl, hzl, hl, hs, hg, hw, ha, ?_⟩
  unfold setB
  rw [if_neg]
  rintro ⟨_, h⟩
  have := (could_iff _ _ _).1 h
  omega

end Go.Proofs.Ytjokbjmfnidmjaa

/- The walk of BlockTells, one theorem a way. -/
namespace Go.Proofs.Ytjokbjmfnidmjaa
open Go.RowKit

theorem conv7 {w : World} {B n : Nat} {A : Option Addr} {bs : List UInt8} (h : Rd w B A n bs) (c : Nat) (x : LaterB B w) : (convert 24 9 (.slice A n c)).run Try.prog x.val = .ok (.string (strB bs)) x.val := conv_rd (h.below x.ext)

end Go.Proofs.Ytjokbjmfnidmjaa

/- The walk of BlockTells, one theorem a way. -/
namespace Go.Proofs.Ytjokbjmfnidmjaa
open Go.RowKit


end Go.Proofs.Ytjokbjmfnidmjaa

/- The walk of BlockTells: all ways. -/
namespace Go.Proofs.Ytjokbjmfnidmjaa
open Go.RowKit

end Go.Proofs.Ytjokbjmfnidmjaa

/- A region that draws its order, with one place at which two operations that are no readers may come up, one ahead of the other; a struct of a block made and filled in a region. -/
namespace Go.Proofs.Ytjokbjmfnidmjaa
open Go.RowKit

section
variable {P : Program} {ops : Array Oper} {Q : Exit → Act → World → Prop}
/-- The region: readers first, then either of two, each with an order of its own for what is left. -/
theorem wp_region_fork {id : Nat} {a : Act} {w : World} (B : Nat) (rs : List Nat) (i1 i2 : Nat) (p1 p2 : List (List Nat × Nat)) (last1 last2 T : List Nat) (hm : P.follows .mixedOrders = true) (hsel : Region.noSelect ops = true)
    (hc : (segT ops T (Array.replicate ops.size false) rs && (Region.ready .any ops (mark (Array.replicate ops.size false) rs) == [i1, i2] && (!mv ops i1 && (!mv ops i2 && (planT ops last1 T ((mark (Array.replicate ops.size false) rs).setIfInBounds i1 true) p1 && (planT ops last2 T ((mark (Array.replicate ops.size false) rs).setIfInBounds i2 true) p2 && (1 + planTLen last1 T p1 + rs.length == ops.size && 1 + planTLen last2 T p2 + rs.length == ops.size))))))) = true)
    (hQ : ∀ c a t v w, Q (.panic c) (Act.put a (some t) v) w → Q (.panic c) a w)
    (h : wpQuiet P ops (AfterB B w.drew) (fun a' => wpOp P ops Q i1 (fun a'' w'' => Below B w.drew w'' ∧ ∃ B', B ≤ B' ∧ wpT P ops Q last1 T p1 B' a'' w'') a' w.drew ∧ wpOp P ops Q i2 (fun a'' w'' => Below B w.drew w'' ∧ ∃ B', B ≤ B' ∧ wpT P ops Q last2 T p2 B' a'' w'') a' w.drew) (pick ops rs) a) :
    (Code.region id ops true).wp P Q a w := by
  simp only [Bool.and_eq_true, beq_iff_eq] at hc
  obtain ⟨h1, h2, m1, m2, k1, k2, n1, n2⟩ := hc
  have hs := segT_any (T := T) hsel hQ B w.drew _ (1 + planTLen last1 T p1) rs _ a h1 h (fun a' ha => by
    rw [Nat.add_comm]
    refine ⟨fun h0 => (by rw [h2] at h0; cases h0), fun j hj => ?_⟩
    rw [h2] at hj
    rcases List.mem_cons.1 hj with rfl | hj
    · refine wpOp_mono (fun a'' w'' hh => ⟨fun _ _ => hh.1, fun hm => by simp [hm] at m1, ?_⟩) ha.1
      obtain ⟨hb, B', hB, hm⟩ := hh
      exact wpAnyT_less (fun w3 h4 => hb.trans (h4.mono hB)) _ _ _ _ (planT_any hsel hQ last1 p1 _ B' a'' w'' k1 hm)
    · obtain rfl : j = i2 := by simpa using hj
      have e : planTLen last1 T p1 = planTLen last2 T p2 := by omega
      rw [e]
      refine wpOp_mono (fun a'' w'' hh => ⟨fun _ _ => hh.1, fun hm => by simp [hm] at m2, ?_⟩) ha.2
      obtain ⟨hb, B', hB, hm⟩ := hh
      exact wpAnyT_less (fun w3 h4 => hb.trans (h4.mono hB)) _ _ _ _ (planT_any hsel hQ last2 p2 _ B' a'' w'' k2 hm))
  rw [n1] at hs
  exact wp_region_any hm (wpAnyT_any _ _ _ _ hs)

/-- An operation that yields nothing and writes above the bound. -/
theorem tail_skip {i B : Nat} {o : Oper} {a : Act} {w w1 : World} {K : Act → World → Prop} (ho : ops[i]? = some o) (hd : o.dst = none) (hw : Region.wanted o (yielded ops a.tmps) = true)
    (hr : (execOp a.eval o).run P w = .ok .skip w1) (hb : Below B w w1) (hk : K a w1) : wpOp P ops Q i (fun a'' w'' => Below B w w'' ∧ K a'' w'') a w := by
  unfold wpOp
  simp only [ho]
  rw [if_pos hw]
  refine .inl ?_
  unfold Oper.wp
  rw [hr]
  refine ⟨hb, ?_⟩
  rw [hd]
  exact hk
end

/-- A new block's struct. -/
theorem alloc_blk (ρ : Operand → Value) (o : Oper) (ho : o.op = .alloc 47) (w : World) :
    (execOp ρ o).run Try.prog w = .ok (.value (.pointer (some ⟨w.heap.size, 0, none⟩))) (w.alloc (.cells #[.int .i64 0, .int .i64 0, .bool false] 47)) := by
  unfold execOp
  simp only [ho]
  simp [go_sem]

theorem store_blk (ρ : Operand → Value) (o : Oper) (x y : Operand) (ho : o.op = .store 47 x y) (w : World) (gx : Nat) (p q : Int) (r : Bool) (v0 v1 v2 : Value) (hx : ρ x = .pointer (some ⟨gx, 0, none⟩)) (hy : ρ y = .agg #[.int .i64 p, .int .i64 q, .bool r]) (h : w.heap[gx]? = some (.cells #[v0, v1, v2] 47 (0, 0))) :
    (execOp ρ o).run Try.prog w = .ok .skip (((w.setCell ⟨gx, 0, none⟩ (.int .i64 p)).setCell ⟨gx, 1, none⟩ (.int .i64 q)).setCell ⟨gx, 2, none⟩ (.bool r)) := by
  obtain ⟨⟨e0, e1, e2⟩, f0, f1, f2⟩ := blk_cells h
  unfold execOp
  simp only [ho, hx, hy]
  simp [go_sem, e0, e1, e2, f0, f1, f2]

section
variable {wB W : World} {g base cap c : Nat} {A : Option Addr} {bs : List UInt8} {L : List (Nat × Obj)}
/-- A struct above the bound, and no part of the arena, is filled; one other object is kept. -/
theorem St.put3 (h : St wB W g base cap A c bs L) {gx g9 : Nat} {t : TypeId} {a b d : Value} {o9 : Obj} (hx : W.heap[gx]? = some (.cells #[a, b, d] t (0, 0))) (hn : ¬ foot g A gx) (hB : wB.heap.size ≤ gx) (h9 : W.heap[g9]? = some o9) (hne : g9 ≠ gx) (x y z : Value) :
    St wB (((W.setCell ⟨gx, 0, none⟩ x).setCell ⟨gx, 1, none⟩ y).setCell ⟨gx, 2, none⟩ z) g base cap A c bs [(gx, .cells #[x, y, z] t), (g9, o9)] := by
  have keep : ∀ k, k ≠ gx → (((W.setCell ⟨gx, 0, none⟩ x).setCell ⟨gx, 1, none⟩ y).setCell ⟨gx, 2, none⟩ z).heap[k]? = W.heap[k]? := fun k hk =>
    (Below.heap_setCell _ ⟨gx, 2, none⟩ z k hk).trans ((Below.heap_setCell _ ⟨gx, 1, none⟩ y k hk).trans (Below.heap_setCell _ ⟨gx, 0, none⟩ x k hk))
  refine ⟨((h.bel.setCell (p := ⟨gx, 0, none⟩) hB x).setCell (p := ⟨gx, 1, none⟩) hB y).setCell (p := ⟨gx, 2, none⟩) hB z, h.ar.keep fun k hk => keep k (fun e => hn (e ▸ hk)), h.gB, h.aB, fun p hp => ?_⟩
  rcases List.mem_cons.1 hp with rfl | hp
  · exact blk_set hx x y z
  · obtain rfl : p = (g9, o9) := by simpa using hp
    exact (keep g9 hne).trans h9
theorem St.nofoot (h : St wB W g base cap A c bs L) {k : Nat} (hk : W.heap.size ≤ k) : ¬ foot g A k := fun hf => by have := h.ar.foot_lt hf; omega
end
end Go.Proofs.Ytjokbjmfnidmjaa

/- The walk of BlockBack. -/
namespace Go.Proofs.Ytjokbjmfnidmjaa
open Go.RowKit

theorem Boo.keep {w w' : World} {A : Option Addr} {kb : List Bool} (h : Boo w A kb) (hb : Below w.heap.size w w') : 0 < kb.length → ∃ b o, A = some ⟨b, o, none⟩ ∧ b < w.heap.size ∧ ∀ j u, kb[j]? = some u → w'.cell? ⟨b, o + j, none⟩ = some (.bool u) := fun hn => by
  obtain ⟨b, o, e, hlt, hc⟩ := h hn
  exact ⟨b, o, e, hlt, fun j u hu => (hb.cell (p := ⟨b, _, none⟩) hlt).trans (hc j u hu)⟩

theorem setAll_length : ∀ (l : List Bk) (bs : List UInt8), (∀ x ∈ l, isSz (x.size : Int) = true ∧ x.off + x.size ≤ bs.length) → (setAll bs l).length = bs.length
  | [], _, _ => rfl
  | x :: r, bs, h => by
    have h1 := h x (List.mem_cons_self ..)
    have e := setT_length (bs := bs) h1.1 h1.2
    show (setAll (setT bs x) r).length = _
    rw [setAll_length r _ (fun y hy => by rw [e]; exact h y (List.mem_cons_of_mem _ hy)), e]

end Go.Proofs.Ytjokbjmfnidmjaa

/- Layer 9's laws: the head (the document's example). -/
namespace Go.Proofs.Ytjokbjmfnidmjaa
open Go.RowKit

def up9L : List Bk := [⟨184, 32, false⟩, ⟨216, 32, true⟩, ⟨248, 32, false⟩]
theorem up9_tile : tile 184 up9L 280 := ⟨rfl, by decide, rfl, by decide, rfl, by decide, rfl⟩
theorem setAll_len {l : List Bk} {bs : List UInt8} {o e : Nat} (h : tile o l e) (he : e ≤ bs.length) : ∀ j, (setAll bs (l.take j)).length = bs.length := fun j => go (l.take j) bs (fun x hx => by
    have := (tile_mem l o e h).2 x (List.mem_of_mem_take hx); exact ⟨this.2.2.1, by omega⟩)
where go : ∀ (l : List Bk) (bs : List UInt8), (∀ x ∈ l, isSz (x.size : Int) = true ∧ x.off + x.size ≤ bs.length) → (setAll bs l).length = bs.length
  | [], _, _ => rfl
  | x :: r, bs, h => by
    have h1 := h x (List.mem_cons_self ..)
    have e := setT_length (bs := bs) h1.1 h1.2
    show (setAll (setT bs x) r).length = _
    rw [go r _ (fun y hy => by rw [e]; exact h y (List.mem_cons_of_mem _ hy)), e]
theorem setAll_next {l : List Bk} {bs : List UInt8} {o e j : Nat} {x : Bk} (h : tile o l e) (ho : 184 ≤ o) (ho2 : o % 16 = 8) (he : e ≤ bs.length) (hx : l[j]? = some x) :
    setB (setAll bs (l.take j)) (x.off : Int) (x.size : Int) x.used = some (setAll bs (l.take (j + 1))) ∧ x.off + x.size ≤ bs.length := by
  have hm := (tile_mem l o e h).2 x (List.mem_of_getElem? hx)
  have hnx : setAll bs (l.take (j + 1)) = setT (setAll bs (l.take j)) x := by
    unfold setAll
    rw [List.take_add_one, hx, List.foldl_append]
    rfl
  rw [hnx]
  exact ⟨setB_of _ x (by omega) (by omega) (by rw [setAll_len h he]; omega) hm.2.2.1, by omega⟩
/-- Zeros, with blocks set one behind the other: they stand, and all lists are empty. -/
theorem lists_set {l : List Bk} {n : Nat} (h : tile 184 l n) (hn : n ≤ 16384) : Lists (setAll (List.replicate n 0) l) l (fun _ => []) := by
  have hn0 := (tile_mem l 184 n h).1
  obtain ⟨a1, a2, _, a4⟩ := setAll_spec l (List.replicate n 0) 184 n (Nat.le_refl _) rfl h (by rw [List.length_replicate]; exact Nat.le_refl _)
  rw [List.length_replicate] at a1
  refine lists_none (by omega) (by omega) ⟨a2, tile_apart l 184 n h⟩ (fun p hp _ => ?_)
  rw [a4 p (.inl hp)]
  have := wordN_zeros [] n p (by omega)
  rwa [List.append_nil] at this

theorem up9_bytes : ∃ z o0 o1 o2 : List UInt8, List.replicate 280 (0 : UInt8) = z ∧ z.length = 280 ∧ setAll z up9L = o0 ∧ o0.length = 280 ∧ o1.length = 280 ∧ o2.length = 280 ∧ putB o0 184 = some o1 ∧ putB o1 248 = some o2 ∧ putB o2 216 = none ∧ allB o2 0 = some [248, 184] := by
  have h0 := lists_set up9_tile (by decide)
  have l0 := setAll_len (bs := List.replicate 280 0) up9_tile (by rw [List.length_replicate]; exact Nat.le_refl _) 3
  rw [List.length_replicate] at l0
  have c0 : classI ((32 : Nat) : Int) = ((0 : Nat) : Int) := by decide
  obtain ⟨o1, p1, h1, l1, _⟩ := h0.put (x := ⟨184, 32, false⟩) (by simp [up9L]) rfl c0 (by omega) (by simp)
  obtain ⟨o2, p2, h2, l2, _⟩ := h1.put (x := ⟨248, 32, false⟩) (by simp [up9L]) rfl c0 (by omega) (by simp [setL])
  have ha := h2.all (c := 0) (by omega) (by simp [setL])
  refine ⟨_, _, o1, o2, rfl, List.length_replicate, rfl, l0, l1.trans l0, l2.trans (l1.trans l0), p1, p2, ?_, by rw [ha]; rfl⟩
  have hg := h2.st.at_ ⟨216, 32, true⟩ (by simp [up9L])
  have hf : freeI o2 216 < 0 := by
    have e : getB o2 216 = some ⟨216, 32, true⟩ := hg
    unfold freeI
    rw [e]
    simp
  unfold putB
  dsimp only
  rw [if_pos hf]

end Go.Proofs.Ytjokbjmfnidmjaa

/- A row of lists of numbers in memory, beside an arena and a row of bools: how it stands in the walk of ListFirst. -/
namespace Go.Proofs.Ytjokbjmfnidmjaa
open Go.RowKit

/-- Numbers in a row that is none of the blocks of S. -/
def Rw (S : Nat → Prop) (w : World) (A : Option Addr) (l : List Nat) : Prop := 0 < l.length → ∃ b o, A = some ⟨b, o, none⟩ ∧ b < w.heap.size ∧ ¬ S b ∧ ∀ (j x : Nat), l[j]? = some x → w.cell? ⟨b, o + j, none⟩ = some (.int .i64 (x : Int))
/-- A row of 22 lists. -/
structure Ls (S : Nat → Prop) (w : World) (gl : Nat) (L : Nat → List Nat) (cs : List Value) : Prop where
  len : cs.length = 22
  row : w.heap[gl]? = some (.cells cs.toArray 42 (0, 0))
  at_ : ∀ d, d < 22 → ∃ A c, cs[d]? = some (.slice A (L d).length c) ∧ (A = none → c = 0) ∧ Rw S w A (L d)

section
variable {S S' : Nat → Prop} {w w' : World} {gl : Nat} {L : Nat → List Nat} {cs : List Value} {A : Option Addr} {l : List Nat}
theorem Rw.nil (h : l = []) : Rw S w A l := fun h0 => by subst h; exact absurd h0 (by simp)
theorem Rw.keep (h : Rw S w A l) (hz : w.heap.size ≤ w'.heap.size) (hk : ∀ k, k < w.heap.size → ¬ S k → w'.heap[k]? = w.heap[k]? ∧ ¬ S' k) : Rw S' w' A l := fun h0 => by
  obtain ⟨b, o, e, hb, hn, hc⟩ := h h0
  obtain ⟨k1, k2⟩ := hk b hb hn
  exact ⟨b, o, e, Nat.lt_of_lt_of_le hb hz, k2, fun j x hx => (World.cell?_of_block (w := w) (a := ⟨b, o + j, none⟩) k1).trans (hc j x hx)⟩
theorem Rw.reads (h : Rw S w A l) : IRd w w.heap.size A (nats l) := fun h0 => by
  obtain ⟨b, o, e, hb, _, hc⟩ := h (by simpa [nats] using h0)
  refine ⟨b, o, e, hb, fun j x hx => ?_⟩
  rw [nats, List.getElem?_map] at hx
  cases hl : l[j]? with
  | none => rw [hl] at hx; cases hx
  | some y => rw [hl] at hx; injection hx with hx; rw [← hx]; exact hc j y hl
theorem Ls.keep (h : Ls S w gl L cs) (hz : w.heap.size ≤ w'.heap.size) (hg : w'.heap[gl]? = w.heap[gl]?) (hk : ∀ k, k < w.heap.size → ¬ S k → w'.heap[k]? = w.heap[k]? ∧ ¬ S' k) : Ls S' w' gl L cs :=
  ⟨h.len, hg.trans h.row, fun d hd => by obtain ⟨A, c, e, n, r⟩ := h.at_ d hd; exact ⟨A, c, e, n, r.keep hz hk⟩⟩
theorem Ls.cell (h : Ls S w gl L cs) {d : Nat} (hd : d < 22) : ∃ A c, w.cell? ⟨gl, d, none⟩ = some (.slice A (L d).length c) ∧ (A = none → c = 0) ∧ Rw S w A (L d) := by
  obtain ⟨A, c, e, n, r⟩ := h.at_ d hd
  refine ⟨A, c, ?_, n, r⟩
  rw [cell_of_row w gl d _ _ (0, 0) h.row]
  simpa using e
theorem Ls.set (h : Ls S w gl L cs) (hS : S gl) {d : Nat} (hd : d < 22) {A1 : Option Addr} {c1 : Nat} {l1 : List Nat} (hA1 : A1 = none → c1 = 0) (hr : Rw S w A1 l1) :
    Ls S (w.setCell ⟨gl, d, none⟩ (.slice A1 l1.length c1)) gl (setL L d l1) (cs.set d (.slice A1 l1.length c1)) := by
  have hz : w.heap.size ≤ (w.setCell ⟨gl, d, none⟩ (.slice A1 l1.length c1)).heap.size := by simp [World.setCell]
  have hk : ∀ k, k < w.heap.size → ¬ S k → (w.setCell ⟨gl, d, none⟩ (.slice A1 l1.length c1)).heap[k]? = w.heap[k]? ∧ ¬ S k := fun k _ hn => ⟨Below.heap_setCell w ⟨gl, d, none⟩ _ k (fun e => hn (e ▸ hS)), hn⟩
  refine ⟨by rw [List.length_set]; exact h.len, ?_, fun e he => ?_⟩
  · have := heap_setCell_same w gl d _ _ (.slice A1 l1.length c1) h.row
    rw [this]
    simp
  · by_cases hed : e = d
    · subst hed
      refine ⟨A1, c1, ?_, hA1, ?_⟩
      · rw [List.getElem?_set_self (by rw [h.len]; exact hd)]
        simp [setL]
      · have e2 : setL L e l1 e = l1 := by simp [setL]
        rw [e2]; exact hr.keep hz hk
    · obtain ⟨A, c, e1, n1, r⟩ := h.at_ e he
      have e2 : setL L d l1 e = L e := by simp [setL, hed]
      refine ⟨A, c, ?_, n1, ?_⟩
      · rw [List.getElem?_set_ne (fun h => hed h.symm), e2]; exact e1
      · rw [e2]; exact r.keep hz hk
end

/-- The arena's blocks, the row of lists, the row of bools. -/
def Sx (g : Nat) (A : Option Addr) (gl gi : Nat) (k : Nat) : Prop := k = gl ∨ k = gi ∨ foot g A k
/-- How all stands in ListFirst's great loop. -/
structure Lf (wB W : World) (g : Nat) (A : Option Addr) (c : Nat) (bs : List UInt8) (gl gi : Nat) (L : Nat → List Nat) (cs : List Value) (inn : List Bool) : Prop where
  st : St wB W g 32 16384 A c bs []
  ls : Ls (Sx g A gl gi) W gl L cs
  ir : W.heap[gi]? = some (.cells (inn.map Value.bool).toArray 4 (0, 0))
  nl : ¬ foot g A gl
  ni : ¬ foot g A gi
  ne : gl ≠ gi
  lB : wB.heap.size ≤ gl
  iB : wB.heap.size ≤ gi

section
variable {wB W W' : World} {g c gl gi : Nat} {A : Option Addr} {bs : List UInt8} {L : Nat → List Nat} {cs : List Value} {inn : List Bool}
theorem Lf.below (h : Lf wB W g A c bs gl gi L cs inn) (hb : Below W.heap.size W W') : Lf wB W' g A c bs gl gi L cs inn :=
  ⟨h.st.below hb, h.ls.keep hb.size (hb.block gl (heap_lt h.ls.row)) (fun k hk hn => ⟨hb.block k hk, hn⟩), (hb.block gi (heap_lt h.ir)).trans h.ir, h.nl, h.ni, h.ne, h.lB, h.iB⟩
theorem Lf.became {out : List UInt8} (h : Lf wB W g A c bs gl gi L cs inn) (hb : Became 85 g 32 16384 A out W W') : ∃ A' c', Lf wB W' g A' c' out gl gi L cs inn := by
  obtain ⟨A', c', har, ht, hA⟩ := hb
  have hnf : ∀ k, k < W.heap.size → ¬ foot g A k → ¬ foot g A' k := fun k hk hn hf => by
    rcases hf with rfl | ⟨a, e, rfl⟩
    · exact hn (.inl rfl)
    · rcases hA with hA | hA
      · exact hn (.inr ⟨a, hA ▸ e, rfl⟩)
      · have := hA a e; omega
  have hgl := heap_lt h.ls.row
  have hgi := heap_lt h.ir
  have hbl : Below wB.heap.size W W' := ht.below (fun k hk => by
    rcases hk with rfl | ⟨a, e, rfl⟩
    · exact h.st.gB
    · exact h.st.aB a e) h.st.size
  refine ⟨A', c', ⟨h.st.bel.trans hbl, har, h.st.gB, fun a ha => ?_, fun p hp => by cases hp⟩, h.ls.keep ht.size (ht.block gl hgl h.nl) (fun k hk hn => ?_), (ht.block gi hgi h.ni).trans h.ir, hnf gl hgl h.nl, hnf gi hgi h.ni, h.ne, h.lB, h.iB⟩
  · rcases hA with hA | hA
    · exact h.st.aB a (hA ▸ ha)
    · exact Nat.le_trans h.st.size (hA a ha)
  · refine ⟨ht.block k hk (fun hf => hn (.inr (.inr hf))), fun hs => ?_⟩
    rcases hs with e | e | hf
    · exact hn (.inl e)
    · exact hn (.inr (.inl e))
    · exact hnf k hk (fun h' => hn (.inr (.inr h'))) hf
theorem St.setB (h : St wB W g 32 16384 A c bs []) {k : Nat} (hk : ¬ foot g A k) (hB : wB.heap.size ≤ k) (i : Nat) (u : Value) : St wB (W.setCell ⟨k, i, none⟩ u) g 32 16384 A c bs [] :=
  ⟨h.bel.setCell (p := ⟨k, i, none⟩) hB u, h.ar.keep fun j hj => Below.heap_setCell W ⟨k, i, none⟩ u j (fun e => hk (by subst e; exact hj)), h.gB, h.aB, fun p hp => by cases hp⟩
theorem Lf.mark (h : Lf wB W g A c bs gl gi L cs inn) (k : Nat) (b : Bool) : Lf wB (W.setCell ⟨gi, k, none⟩ (.bool b)) g A c bs gl gi L cs (inn.set k b) := by
  refine ⟨h.st.setB h.ni h.iB k _, h.ls.keep (by simp [World.setCell]) (Below.heap_setCell W ⟨gi, k, none⟩ _ gl h.ne) (fun j _ hn => ⟨Below.heap_setCell W ⟨gi, k, none⟩ _ j (fun e => hn (.inr (.inl e))), hn⟩), ?_, h.nl, h.ni, h.ne, h.lB, h.iB⟩
  have := heap_setCell_same W gi k _ _ (.bool b) h.ir
  rw [this, List.map_set]
  simp
theorem Lf.put (h : Lf wB W g A c bs gl gi L cs inn) {d : Nat} (hd : d < 22) {A1 : Option Addr} {c1 : Nat} {l1 : List Nat} (hA1 : A1 = none → c1 = 0) (hr : Rw (Sx g A gl gi) W A1 l1) :
    Lf wB (W.setCell ⟨gl, d, none⟩ (.slice A1 l1.length c1)) g A c bs gl gi (setL L d l1) (cs.set d (.slice A1 l1.length c1)) inn :=
  ⟨h.st.setB h.nl h.lB d _, h.ls.set (.inl rfl) hd hA1 hr, (Below.heap_setCell W ⟨gl, d, none⟩ _ gi (fun e => h.ne e.symm)).trans h.ir, h.nl, h.ni, h.ne, h.lB, h.iB⟩
/-- A row of this call's own, made since W, is none of those. -/
theorem Lf.fresh (h : Lf wB W g A c bs gl gi L cs inn) {k : Nat} (hk : W.heap.size ≤ k) : ¬ Sx g A gl gi k := fun hs => by
  rcases hs with rfl | rfl | hf
  · have := heap_lt h.ls.row; omega
  · have := heap_lt h.ir; omega
  · have := h.st.ar.foot_lt hf; omega
theorem Lf.bool (h : Lf wB W g A c bs gl gi L cs inn) {k : Nat} {b : Bool} (hk : inn[k]? = some b) : W.cell? ⟨gi, k, none⟩ = some (.bool b) := by
  rw [cell_of_row W gi k _ _ (0, 0) h.ir]
  simp [hk]
end
end Go.Proofs.Ytjokbjmfnidmjaa

/- Free blocks parted by used ones, and which of them are in their lists: ListFirst's plain part. No program in sight. -/
namespace Go.Proofs.Ytjokbjmfnidmjaa

/-- Each with a used one of 32 bytes behind it. -/
def inter : List Bk → List Bk
  | [] => []
  | x :: r => x :: ⟨x.off + x.size, 32, true⟩ :: inter r
theorem inter_snoc (l : List Bk) (x : Bk) : inter (l ++ [x]) = (inter l ++ [x]) ++ [⟨x.off + x.size, 32, true⟩] := by
  induction l with
  | nil => rfl
  | cons y r ih => simp [inter, ih]
theorem inter_len (l : List Bk) : (inter l).length = 2 * l.length := by
  induction l with
  | nil => rfl
  | cons y r ih => simp [inter, ih]; omega
theorem inter_get : ∀ (l : List Bk) (j : Nat) (x : Bk), l[j]? = some x → (inter l)[2 * j]? = some x ∧ (inter l)[2 * j + 1]? = some ⟨x.off + x.size, 32, true⟩
  | [], j, x, h => by simp at h
  | y :: r, 0, x, h => by
    simp at h; subst h
    exact ⟨rfl, rfl⟩
  | y :: r, j + 1, x, h => by
    have ih := inter_get r j x (by simpa using h)
    have e : 2 * (j + 1) = 2 * j + 1 + 1 := by omega
    rw [e]
    exact ⟨by simpa [inter] using ih.1, by simpa [inter] using ih.2⟩
theorem inter_mem {l : List Bk} {x : Bk} (h : x ∈ l) : x ∈ inter l := by
  obtain ⟨j, hj⟩ := List.getElem?_of_mem h
  exact List.mem_of_getElem? (inter_get l j x hj).1
theorem inter_sub (l : List Bk) : l.Sublist (inter l) := by
  induction l with
  | nil => exact List.Sublist.slnil
  | cons y r ih => exact (ih.cons _).cons_cons y
theorem inter_ne {l : List Bk} {e : Nat} (h : tile 184 (inter l) e) {j k : Nat} {x y : Bk} (hj : l[j]? = some x) (hk : l[k]? = some y) (hne : j ≠ k) : x.off ≠ y.off := by
  have hp := (tile_ne (inter l) 184 e h).sublist (inter_sub l)
  rw [List.pairwise_iff_getElem] at hp
  obtain ⟨j1, rfl⟩ := List.getElem?_eq_some_iff.1 hj
  obtain ⟨k1, rfl⟩ := List.getElem?_eq_some_iff.1 hk
  rcases Nat.lt_or_gt_of_ne hne with h1 | h1
  · exact hp j k j1 k1 h1
  · exact fun e => hp k j k1 j1 h1 e.symm

/-- Which are in their lists. -/
def InL (fr : List Bk) (inn : List Bool) (L : Nat → List Nat) : Prop := ∀ (k : Nat) (x : Bk) (c : Nat), fr[k]? = some x → classI (x.size : Int) = (c : Int) → (inn[k]? = some true ↔ x.off ∈ L c)
section
variable {fr : List Bk} {inn : List Bool} {L : Nat → List Nat} {e k c : Nat} {x : Bk}
theorem InL.put (h : InL fr inn L) (ht : tile 184 (inter fr) e) (hx : fr[k]? = some x) (hc : classI (x.size : Int) = (c : Int)) (hk : k < inn.length) : InL fr (inn.set k true) (setL L c (x.off :: L c)) := fun j y d hy hd => by
  by_cases hjk : j = k
  · subst hjk
    obtain rfl : y = x := Option.some.inj (hy.symm.trans hx)
    obtain rfl : d = c := by omega
    rw [List.getElem?_set_self hk]
    simp [setL]
  · have hne := inter_ne ht hy hx hjk
    rw [List.getElem?_set_ne (fun h => hjk h.symm), h j y d hy hd]
    unfold setL
    split
    · rename_i e; subst e; simp [hne]
    · exact Iff.rfl
theorem InL.take (h : InL fr inn L) (ht : tile 184 (inter fr) e) (hx : fr[k]? = some x) (hc : classI (x.size : Int) = (c : Int)) (hk : k < inn.length) : InL fr (inn.set k false) (setL L c ((L c).filter fun q => decide (q ≠ x.off))) := fun j y d hy hd => by
  by_cases hjk : j = k
  · subst hjk
    obtain rfl : y = x := Option.some.inj (hy.symm.trans hx)
    obtain rfl : d = c := by omega
    rw [List.getElem?_set_self hk]
    simp [setL]
  · have hne := inter_ne ht hy hx hjk
    rw [List.getElem?_set_ne (fun h => hjk h.symm), h j y d hy hd]
    unfold setL
    split
    · rename_i e; subst e; simp [hne]
    · exact Iff.rfl
end
theorem setL_len {L : Nat → List Nat} {c n m : Nat} {l : List Nat} (h : ∀ d, (L d).length ≤ n) (hl : l.length ≤ m) (hm : n ≤ m) : ∀ d, (setL L c l d).length ≤ m := fun d => by
  unfold setL
  split
  · exact hl
  · exact Nat.le_trans (h d) hm
end Go.Proofs.Ytjokbjmfnidmjaa

/- The walk of ListFirst. -/
namespace Go.Proofs.Ytjokbjmfnidmjaa
open Go.RowKit

theorem bool_infb : (Try.prog.info? 4).map (fun i => (i.zero, i.size, i.bytes)) = some (some (.bool false), 1, 1) := by kernel_rfl
theorem sl_infb : (Try.prog.info? 42).map (fun i => (i.zero, i.size, i.bytes)) = some (some (.slice none 0 0), 1, 24) := by kernel_rfl
theorem made_one (z : Value) (n : Nat) : madeCells #[z] n = (List.replicate n z).toArray := by
  apply Array.ext
  · simp [madeCells]
  · intro i h1 h2
    simp [madeCells, Nat.mod_one]
theorem mk_bools (n : Nat) (hn : n ≤ 1000) (W : World) : (Instr.makeSlice 43 (.int .i64 (n : Int)) (.int .i64 (n : Int))).run Try.prog W = .ok (.slice (some ⟨W.heap.size, 0, none⟩) n n) (W.alloc (.cells ((List.replicate n false).map Value.bool).toArray 4)) := by
  have h := run_make_row' (P := Try.prog) 43 4 (.bool false) 1 Try.underlying43 bool_infb rfl .i64 .i64 n (by omega) (by omega) W
  rw [h, made_one, List.map_replicate]
theorem run_one_int (w : World) (x : Int) : (Instr.buildSlice 42 1 #[(0, .int .i64 x)]).run Try.prog w = .ok (.slice (some ⟨w.heap.size, 0, none⟩) 1 1) (w.alloc (.cells #[.int .i64 x] 3)) := by
  obtain ⟨i0, hi, hz0, hz1, hz2⟩ := info_parts int_inf
  refine run_buildSlice w 42 3 1 _ _ i0 _ Try.underlying42 hi hz0 (by omega) (by omega) ?_
  rw [hz1]
  have e : Array.range (1 * 1) = #[0] := by decide
  rw [e]
  simp [Instr.fill, Value.cells]
theorem iv_one (l : List Nat) : ∀ u ∈ l.map iV, u.oneCell' = true := by
  intro u hu
  obtain ⟨x, _, rfl⟩ := List.mem_map.1 hu
  rfl
theorem rw_cells {S : Nat → Prop} {w : World} {ad : Addr} {l : List Nat} (h : Rw S w (some ad) l) : ∀ j u, (l.map iV)[j]? = some u → w.cell? (ad.add j) = some u := by
  intro j u hu
  rw [List.getElem?_map, Option.map_eq_some_iff] at hu
  obtain ⟨x, hx, rfl⟩ := hu
  have hj : j < l.length := by
    rcases Nat.lt_or_ge j l.length with h1 | h1
    · exact h1
    · rw [List.getElem?_eq_none h1] at hx; cases hx
  obtain ⟨b, off, e, _, _, hc⟩ := h (by omega)
  cases e
  have e : (⟨b, off, none⟩ : Addr).add j = ⟨b, off + j, none⟩ := by unfold Addr.add; split <;> simp_all
  rw [e]
  exact hc j x hx
theorem own_one (w : World) (x : Nat) : (w.alloc (.cells #[.int .i64 (x : Int)] 3)).ownsRow w.heap.size 3 1 (.slice (some ⟨w.heap.size, 0, none⟩) 1 1) 1 ([x].map iV) :=
  ⟨rfl, .inr ⟨w.heap.size, 1, _, rfl, Nat.le_refl _, heap_alloc_new w _, Nat.le_refl _, by unfold maxLen; omega, rfl, rfl⟩⟩
theorem nats_len (l : List Nat) : (nats l).length = l.length := by simp [nats]
/-- append(own, src...) for numbers. -/
theorem append_ints {ops : Array Oper} {rest : List Oper} {o : Oper} {a : Act} {w : World} {Q : Exit → Act → World → Prop} (hgd : o.guard = none) (s x : Operand) (ho : o.op = .call { callee := .builtin .append, args := #[s, x], argTypes := #[42, 42] })
    (base : Nat) (v : Value) (n : Nat) (bs : List Nat) (hs : a.eval s = v) (hown : w.ownsRow base 3 1 v n (bs.map iV))
    (S : Nat → Prop) (A : Option Addr) (c : Nat) (cs : List Nat) (hx : a.eval x = .slice A cs.length c) (hr : Rw S w A cs) (hA : A = none → c = 0)
    (hb : n + cs.length ≤ 1000000) (hbase : base ≤ w.heap.size)
    (h : ∀ v' w', w'.ownsRow base 3 1 v' (n + cs.length) ((bs ++ cs).map iV) → w.grownBy w' v.ownBlock → wpList Try.prog ops Q rest (a.put o.dst v') w') : wpList Try.prog ops Q (o :: rest) a w := by
  obtain ⟨i0, hi, hz0, hz1, hz2⟩ := info_parts int_inf
  rcases A with _ | ad
  · obtain rfl := hA rfl
    have hm : cs.length = 0 := by
      rcases Nat.eq_zero_or_pos cs.length with h0 | h0
      · exact h0
      · obtain ⟨_, _, e1, _⟩ := hr h0
        cases e1
    obtain rfl : cs = [] := List.eq_nil_of_length_eq_zero hm
    refine wpList_append_own_none hgd s x 42 ho base 3 i0 1 Try.underlying42 hi v n _ hs hown hx ?_
    exact h v w (by simpa using hown) (World.grownBy.refl w _)
  · refine wpList_append_own w hgd s x 42 ho base 3 i0 (.int .i64 0) 1 8 Try.underlying42 hi hz0 hz1 hz2 rfl (by decide) v n _ hs hown ad cs.length c (cs.map iV) hx (by simp) (rw_cells hr) (iv_one cs) (by unfold maxLen; omega) (by omega) hbase ?_
    intro v' w' h1 h2 _
    exact h v' w' (by simpa using h1) h2
/-- A row of this call's own is none of what was there. -/
theorem rw_own {S : Nat → Prop} {w : World} {base n : Nat} {A : Option Addr} {c : Nat} {l : List Nat} (h : w.ownsRow base 3 1 (.slice A n c) n (l.map iV)) (hn : n = l.length) (hS : ∀ k, base ≤ k → ¬ S k) : Rw S w A l ∧ (A = none → c = 0) := by
  refine ⟨fun h0 => ?_, fun e => ?_⟩
  · rcases h.2 with ⟨_, h0'⟩ | ⟨g, _, _, h', _⟩
    · omega
    · injection h' with e
      subst e
      refine ⟨g, 0, rfl, (h.lt g rfl).2, hS g (h.lt g rfl).1, fun j x hx => ?_⟩
      have hj : j < l.length := by
        rcases Nat.lt_or_ge j l.length with h | h
        · exact h
        · rw [List.getElem?_eq_none h] at hx; cases hx
      rw [Nat.zero_add, h.cellAt j (by omega), List.getElem?_map, hx]
      rfl
  · subst e
    rcases h.2 with ⟨h', _⟩ | ⟨_, _, _, h', _⟩
    · injection h' with _ _ e
    · injection h' with e; cases e
end Go.Proofs.Ytjokbjmfnidmjaa


/- The walk of FitAll. -/
namespace Go.Proofs.Ytjokbjmfnidmjaa
open Go.RowKit

theorem freeL_drop (l : List Bk) (c r : Nat) (x : Bk) (h : l[r]? = some x) : ((l.drop r).reverse.filter fun x => !x.used && classI (x.size : Int) == (c : Int)).map Bk.off = ((l.drop (r + 1)).reverse.filter fun x => !x.used && classI (x.size : Int) == (c : Int)).map Bk.off ++ (if x.used = false ∧ classI (x.size : Int) = (c : Int) then [x.off] else []) := by
  obtain ⟨h1, rfl⟩ := List.getElem?_eq_some_iff.1 h
  rw [List.drop_eq_getElem_cons h1, List.reverse_cons, List.filter_append, List.map_append]
  congr 1
  by_cases hc : l[r].used = false ∧ classI (l[r].size : Int) = (c : Int)
  · rw [if_pos hc]; simp [hc.1, hc.2]
  · rw [if_neg hc]
    have : (!l[r].used && classI (l[r].size : Int) == (c : Int)) = false := by
      rw [Bool.eq_false_iff]
      intro h'
      apply hc
      simpa using h'
    simp [this]
theorem szB_in {bs : List UInt8} {l : List Bk} {L : Nat → List Nat} (h : Lists bs l L) {x : Bk} (hx : x ∈ l) : szB bs x.off = x.size := szB_of (h.st.at_ x hx)
/-- What Find tells behind Rebuild: found is one of the free blocks that hold so many; none, if there is none. -/
theorem fit_found {bs : List UInt8} {l : List Bk} (h : Lists bs l (freeL l)) (hl : l.length ≤ 40) (s : Int) (hs : isSz s = true) : ∃ o : Nat, findV bs s = .tuple #[.int .i64 (o : Int), .nilIface] ∧ o ≤ 20000 ∧
    ((o : Int) == 0 || l.any fun x => x.off == o && !x.used && decide (s ≤ (x.size : Int))) = true ∧ (l.any fun x => !x.used && decide (s ≤ (x.size : Int))) = !(((o : Int) == 0)) := by
  have hc1 := classI_bounds s
  have hc2 : ¬ classI s < 0 := by rw [classI_neg]; simp [hs]
  have hfl : ∀ c, c < 22 → (freeL l c).length ≤ 1024 := fun c _ => Nat.le_trans (freeL_len l c) (by omega)
  obtain ⟨o, e, hh⟩ := findF_spec h hfl s (22 - (classI s).toNat) (classI s).toNat (by omega)
  have ev : findV bs s = .tuple #[.int .i64 (o : Int), .nilIface] := by
    unfold findV findB
    rw [if_pos hs, e]
    rfl
  rcases hh with ⟨h0, hn⟩ | ⟨d, _, h2, h3, h4⟩
  · subst h0
    refine ⟨0, ev, by omega, by simp, ?_⟩
    rw [show (((0 : Nat) : Int) == 0) = true from rfl, Bool.not_true, List.any_eq_false]
    intro x hx hh
    have hh : x.used = false ∧ s ≤ (x.size : Int) := by simpa using hh
    have hf := h.st.facts hx
    obtain ⟨cx, hcx, hcx2⟩ := class_nat hf.2.2.2.2.2
    have hm := classI_mono hs hf.2.2.2.2.2 hh.2
    have := hn cx (by omega) hcx2 x.off (mem_freeL hx hh.1 hcx)
    rw [szB_in h hx] at this
    omega
  · obtain ⟨x, hx, rfl, hu, _⟩ := freeL_mem h3
    rw [szB_in h hx] at h4
    have hf := h.st.facts hx
    have hsm := h.small
    have hz : (((x.off : Nat) : Int) == 0) = false := by rw [beq_eq_false_iff_ne]; omega
    refine ⟨x.off, ev, by omega, ?_, ?_⟩
    · rw [hz, Bool.false_or, List.any_eq_true]
      exact ⟨x, hx, by simp [hu, h4]⟩
    · rw [hz, Bool.not_false, List.any_eq_true]
      exact ⟨x, hx, by simp [hu, h4]⟩

set_option maxRecDepth 100000 in
set_option maxHeartbeats 16000000 in
theorem fa_main (HS : SetC) (HF : FindC) (HR : RebuildC) (HA : AllC) (w : World) (A1 : Option Addr) (k1 : Nat) (ls : List Int) (hI : IRd w w.heap.size A1 ls) (hls : ls.length ≤ 40) (A2 : Option Addr) (k2 : Nat) (us : List Bool) (hU : Boo w A2 us) (sz : Int) (hsz : -9223372036854775808 ≤ sz ∧ sz ≤ 9223372036854775807) :
    Calls Try.prog 4 #[.slice A1 ls.length k1, .slice A2 us.length k2, .int .i64 sz] w fun e w' => e = .returned (.bool true) ∧ Below w.heap.size w w' := by
  obtain ⟨sl, hsl⟩ : ∃ sl, ls.length = sl := ⟨_, rfl⟩
  obtain ⟨ul, hul⟩ : ∃ ul, us.length = ul := ⟨_, rfl⟩
  rw [hsl, hul]
  rw [hsl] at hls
  have s0 : decide ((40 : Int) < (sl : Int)) = false := decide_eq_false (by omega)
  obtain ⟨i0, hi, hz0, hz1, hz2⟩ := info_parts bk_inf
  obtain ⟨B0, hB0⟩ : ∃ B0, w.heap.size = B0 := ⟨_, rfl⟩
  have HB0 := Lib.hid hB0
  have HSL := Lib.hid hsl
  have HUL := Lib.hid hul
  have HI := Lib.hid hI
  have HU := Lib.hid hU
  have HLS := Lib.hid hls
  have HSZ := Lib.hid hsz
  have HS := Lib.hid HS
  have HF := Lib.hid HF
  have HR := Lib.hid HR
  have HA := Lib.hid HA
  have HUP := Lib.hid (up10_any HS.out HF.out HR.out)
  clear hsl hul hI hU hB0 hsz
  go_enter Try.func4, Try.ntmps4
  go_wp2_with fail
  refine (HUP.out _).mono ?_
  rintro e w1 ⟨rfl, hb⟩
  have HB1 : Hid (Below B0 w w1) := by rw [← HB0.out]; exact hb
  clear HUP hb
  go_wp2
  go_loopw [8, 9, 10] (fun q t i wr => ∃ (j : Nat) (l : List Bk) (p : Nat), i = .int .i64 (j : Int) ∧ t = .int .i64 (p : Int) ∧ j ≤ sl ∧ l.length = j ∧ tile 184 l p ∧ p ≤ 184 + 336 * j ∧ wr.ownsRow B0 47 3 q j (flatK l) ∧ Below B0 w wr) (fun _ _ i _ => sl - (intOf i).toNat)
  case atStart => exact ⟨0, [], 184, rfl, rfl, Nat.zero_le _, rfl, rfl, Nat.le_refl _, World.ownsRow_nil _ _ _ _, HB1.out⟩
  case round =>
    obtain ⟨j, l, p, rfl, rfl, hj, hlj, htl, hp, hown, hb⟩ := hrel
    obtain ⟨A7, c7, rfl⟩ := own_sl hown
    have hBw : B0 ≤ wr.heap.size := by have := hb.size; have := HB0.out; omega
    by_cases hlt : j < sl
    · obtain ⟨z, hz⟩ : ∃ z, ls[j]? = some z := ⟨ls[j]'(by rw [HSL.out]; exact hlt), List.getElem?_eq_getElem _⟩
      obtain ⟨b1, o1, rfl, _, hc1⟩ := (HI.out.below (by rw [HB0.out]; exact hb)) (by rw [HSL.out]; omega)
      have q1 := hc1 j z hz
      have hji : (j : Int) < (sl : Int) := by omega
      obtain ⟨pk, hpk⟩ : ∃ pk, (z % ((20 : Nat) : Int)).toNat = pk := ⟨_, rfl⟩
      have hpk1 : pk < 20 := by have := Int.emod_nonneg z (b := ((20 : Nat) : Int)) (by omega); have := Int.emod_lt_of_pos z (b := ((20 : Nat) : Int)) (by omega); omega
      have HPK : Hid (∀ W, Calls Try.prog 15 #[.int .i64 z, .int .i64 20] W fun e w' => e = .returned (.int .i64 (pk : Int)) ∧ W = w') := fun W => lpick_any z 20 W (by omega) (by omega) pk hpk
      obtain ⟨s, hs⟩ : ∃ s, 32 + 16 * pk = s := ⟨_, rfl⟩
      have hs1 : 32 + 16 * (pk : Int) = (s : Int) := by omega
      have hsz : isSz (s : Int) = true := by rw [isSz_iff]; omega
      have hs2 : s ≤ 336 := by omega
      have hpb : p ≤ 14000 := by omega
      have htl' : ∀ u, tile 184 (l ++ [⟨p, s, u⟩]) (p + s) := fun u => tile_snoc l 184 p ⟨p, s, u⟩ htl rfl hsz
      have HTL := Lib.hid htl'
      have HB := Lib.hid hb
      have HOWN := Lib.hid hown
      have HALT : Hid (∀ k, (Value.slice A7 j c7).ownBlock = some k → B0 ≤ k ∧ k < wr.heap.size) := hown.lt
      have HFL : Hid (∀ u, flatK (l ++ [⟨p, s, u⟩]) = flatK l ++ [.int .i64 (p : Int), .int .i64 (s : Int), .bool u]) := fun u => flatK_append _ _
      have HLJ := Lib.hid hlj
      clear hc1 hz hpk hs htl htl' hsz hb hown hlj
      go_wp2_with fail
      refine (HPK.out _).mono ?_
      rintro e w2 ⟨rfl, rfl⟩
      clear q1 HPK
      by_cases huj : j < ul
      · obtain ⟨ub, hub⟩ : ∃ ub, us[j]? = some ub := ⟨us[j]'(by rw [HUL.out]; exact huj), List.getElem?_eq_getElem _⟩
        obtain ⟨b2, o2, rfl, _, hc2⟩ := (HU.out.keep (by rw [HB0.out]; exact HB.out)) (by rw [HUL.out]; omega)
        have q2 := hc2 j ub hub
        have huj2 : (j : Int) < (ul : Int) := by omega
        have g1 : decide ((j : Int) < (ul : Int)) = true := decide_eq_true (by omega)
        have g2 : decide (j < ul) = true := decide_eq_true huj
        clear hc2 hub
        obtain ⟨w3, hw3⟩ : ∃ w3, wr.alloc (.cells #[.int .i64 (p : Int), .int .i64 (s : Int), .bool ub] 47) = w3 := ⟨_, rfl⟩
        obtain ⟨w4, hw4⟩ : ∃ w4, w3.alloc (.cells #[.int .i64 (p : Int), .int .i64 (s : Int), .bool ub] 47) = w4 := ⟨_, rfl⟩
        have b3 : Below wr.heap.size wr w3 := by rw [← hw3]; exact (Below.refl _ _).alloc (Nat.le_refl _) _
        have b4 : Below w3.heap.size w3 w4 := by rw [← hw4]; exact (Below.refl _ _).alloc (Nat.le_refl _) _
        have own4 := own_below' (own_below' HOWN.out b3) b4
        have n4 : w4.heap[w3.heap.size]? = some (.cells #[.int .i64 (p : Int), .int .i64 (s : Int), .bool ub] 47 (0, 0)) := by rw [← hw4]; exact heap_alloc_new w3 _
        have s3 : w3.heap.size = wr.heap.size + 1 := by rw [← hw3]; simp
        have n3 : w3.heap[wr.heap.size]? = some (.cells #[.int .i64 (p : Int), .int .i64 (s : Int), .bool ub] 47 (0, 0)) := by rw [← hw3]; exact heap_alloc_new wr _
        obtain ⟨⟨d0, d1, d2⟩, _⟩ := blk_cells n3
        have n4' := (b4.block _ (heap_lt' n3)).trans n3
        have HNEW : Hid (∀ j u, [Value.int .i64 (p : Int), .int .i64 (s : Int), .bool ub][j]? = some u → w4.cell? ((⟨w3.heap.size, 0, none⟩ : Addr).add j) = some u) := fun j u hu => by
          have e : (⟨w3.heap.size, 0, none⟩ : Addr).add j = ⟨w3.heap.size, j, none⟩ := by unfold Addr.add; split <;> simp_all
          rw [e, cell_of_row w4 _ j _ _ (0, 0) n4]
          simpa using hu
        have HONE : Hid (∀ u ∈ [Value.int .i64 (p : Int), .int .i64 (s : Int), .bool ub], u.oneCell' = true) := fun u hu => by
          simp at hu
          rcases hu with rfl | rfl | rfl <;> rfl
        have hB4 : B0 ≤ w4.heap.size := by have := b4.size; have := b3.size; omega
        have HB4 := Lib.hid (HB.out.trans ((b3.trans (b4.mono b3.size)).mono hBw))
        have OWN4 := Lib.hid own4
        have HN4 := Lib.hid n4'
        have hs4 : w3.heap.size < w4.heap.size := heap_lt' n4
        have HS3 := Lib.hid s3
        have HFU := Lib.hid (HFL.out ub)
        have HTU := Lib.hid (HTL.out ub)
        have hg2 : wr.heap.size < w4.heap.size := heap_lt' n4'
        clear own4 n3 n4 n4' b3 b4 s3 HFL HTL HOWN HB
        go_wp2_with (first
          | (at_builtin; go_must (refine wpList_append_own _ rfl _ _ 44 rfl B0 47 i0 _ 3 24 Try.underlying44 hi hz0 hz1 hz2 rfl (by decide) _ j (flatK l) rfl OWN4.out ⟨w3.heap.size, 0, none⟩ 1 1 [.int .i64 (p : Int), .int .i64 (s : Int), .bool ub] rfl rfl HNEW.out HONE.out (by unfold maxLen; omega) (by omega) hB4 ?_); intro x5 w5 own5 gr5 at5;
             have gr5' : w4.grownBy w5 (Value.slice A7 j c7).ownBlock := gr5; have e5 := (gr5'.block _ hg2 (fun e => by have := (HALT.out _ e.symm).2; omega)).trans HN4.out; obtain ⟨⟨c0, c1, c2⟩, _⟩ := blk_cells e5; have HB5 : Hid (Below B0 w w5) := HB4.out.grown gr5' hB4 (fun k hk => (HALT.out k hk).1); have OWN5 : Hid (w5.ownsRow B0 47 3 x5 (j + 1) (flatK (l ++ [⟨p, s, ub⟩]))) := (show World.ownsRow _ _ _ _ _ _ _ by rw [HFU.out]; exact own5); clear own5 gr5 gr5' at5 e5)
          | fail)
        go_roundw
        case rel => exact ⟨j + 1, l ++ [⟨p, s, ub⟩], p + s, by go_num, by go_num, by omega, by rw [List.length_append, List.length_singleton, HLJ.out], HTU.out, by omega, OWN5.out, HB5.out⟩
        case measure => simp only [intOf]; omega
      · have g1 : decide ((j : Int) < (ul : Int)) = false := decide_eq_false (by omega)
        have g2 : decide (j < ul) = false := decide_eq_false huj
        clear huj
        obtain ⟨wa, hwa⟩ : ∃ wa, wr.alloc (.cells #[.int .i64 (p : Int), .int .i64 (s : Int), .bool false] 47) = wa := ⟨_, rfl⟩
        obtain ⟨w3, hw3⟩ : ∃ w3, wa.setCell ⟨wr.heap.size, 2, none⟩ (.bool false) = w3 := ⟨_, rfl⟩
        have na : wa.heap[wr.heap.size]? = some (.cells #[.int .i64 (p : Int), .int .i64 (s : Int), .bool false] 47 (0, 0)) := by rw [← hwa]; exact heap_alloc_new wr _
        obtain ⟨⟨m0, m1, m2⟩, m3, m4, m5⟩ := blk_cells na
        obtain ⟨w4, hw4⟩ : ∃ w4, w3.alloc (.cells #[.int .i64 (p : Int), .int .i64 (s : Int), .bool false] 47) = w4 := ⟨_, rfl⟩
        have b3 : Below wr.heap.size wr w3 := by rw [← hw3, ← hwa]; exact ((Below.refl _ _).alloc (Nat.le_refl _) _).setCell (p := ⟨wr.heap.size, 2, none⟩) (Nat.le_refl _) _
        have b4 : Below w3.heap.size w3 w4 := by rw [← hw4]; exact (Below.refl _ _).alloc (Nat.le_refl _) _
        have own4 := own_below' (own_below' HOWN.out b3) b4
        have n4 : w4.heap[w3.heap.size]? = some (.cells #[.int .i64 (p : Int), .int .i64 (s : Int), .bool false] 47 (0, 0)) := by rw [← hw4]; exact heap_alloc_new w3 _
        have s3 : w3.heap.size = wr.heap.size + 1 := by rw [← hw3, ← hwa]; simp [World.setCell]
        have n3 : w3.heap[wr.heap.size]? = some (.cells #[.int .i64 (p : Int), .int .i64 (s : Int), .bool false] 47 (0, 0)) := by rw [← hw3]; exact heap_setCell_same wa wr.heap.size 2 _ _ (.bool false) na
        obtain ⟨⟨d0, d1, d2⟩, _⟩ := blk_cells n3
        have n4' := (b4.block _ (heap_lt' n3)).trans n3
        have HNEW : Hid (∀ j u, [Value.int .i64 (p : Int), .int .i64 (s : Int), .bool false][j]? = some u → w4.cell? ((⟨w3.heap.size, 0, none⟩ : Addr).add j) = some u) := fun j u hu => by
          have e : (⟨w3.heap.size, 0, none⟩ : Addr).add j = ⟨w3.heap.size, j, none⟩ := by unfold Addr.add; split <;> simp_all
          rw [e, cell_of_row w4 _ j _ _ (0, 0) n4]
          simpa using hu
        have HONE : Hid (∀ u ∈ [Value.int .i64 (p : Int), .int .i64 (s : Int), .bool false], u.oneCell' = true) := fun u hu => by
          simp at hu
          rcases hu with rfl | rfl | rfl <;> rfl
        have hB4 : B0 ≤ w4.heap.size := by have := b4.size; have := b3.size; omega
        have HB4 := Lib.hid (HB.out.trans ((b3.trans (b4.mono b3.size)).mono hBw))
        have OWN4 := Lib.hid own4
        have HN4 := Lib.hid n4'
        have hs4 : w3.heap.size < w4.heap.size := heap_lt' n4
        have HS3 := Lib.hid s3
        have HFU := Lib.hid (HFL.out false)
        have HTU := Lib.hid (HTL.out false)
        have hg2 : wr.heap.size < w4.heap.size := heap_lt' n4'
        clear na own4 n3 n4 n4' b3 b4 s3 HFL HTL HOWN HB
        go_wp2_with (first
          | (at_builtin; go_must (refine wpList_append_own _ rfl _ _ 44 rfl B0 47 i0 _ 3 24 Try.underlying44 hi hz0 hz1 hz2 rfl (by decide) _ j (flatK l) rfl OWN4.out ⟨w3.heap.size, 0, none⟩ 1 1 [.int .i64 (p : Int), .int .i64 (s : Int), .bool false] rfl rfl HNEW.out HONE.out (by unfold maxLen; omega) (by omega) hB4 ?_); intro x5 w5 own5 gr5 at5;
             have gr5' : w4.grownBy w5 (Value.slice A7 j c7).ownBlock := gr5; have e5 := (gr5'.block _ hg2 (fun e => by have := (HALT.out _ e.symm).2; omega)).trans HN4.out; obtain ⟨⟨c0, c1, c2⟩, _⟩ := blk_cells e5; have HB5 : Hid (Below B0 w w5) := HB4.out.grown gr5' hB4 (fun k hk => (HALT.out k hk).1); have OWN5 : Hid (w5.ownsRow B0 47 3 x5 (j + 1) (flatK (l ++ [⟨p, s, false⟩]))) := (show World.ownsRow _ _ _ _ _ _ _ by rw [HFU.out]; exact own5); clear own5 gr5 gr5' at5 e5)
          | fail)
        go_roundw
        case rel => exact ⟨j + 1, l ++ [⟨p, s, false⟩], p + s, by go_num, by go_num, by omega, by rw [List.length_append, List.length_singleton, HLJ.out], HTU.out, by omega, OWN5.out, HB5.out⟩
        case measure => simp only [intOf]; omega
    · obtain rfl : sl = j := by omega
      have hp184 := (tile_mem l 184 p htl).1
      have hp9 : p ≤ 14000 := by have := HLS.out; omega
      obtain ⟨z, hz⟩ : ∃ z, List.replicate p (0 : UInt8) = z := ⟨_, rfl⟩
      have hzl : z.length = p := by rw [← hz]; exact List.length_replicate
      have HMK : ∀ W : World, (Instr.makeSlice 24 (.int .i64 (p : Int)) (.int .i64 (p : Int))).run Try.prog W = .ok (.slice (some ⟨W.heap.size, 0, none⟩) p p) (W.alloc (.cells (rowB z) 5)) := run_mk0 p (by omega) z hz
      obtain ⟨wb, hwb⟩ : ∃ wb, wr.alloc (.cells (rowB z) 5) = wb := ⟨_, rfl⟩
      have f1 : Fill wb wr.heap.size 5 z := by rw [← hwb]; exact Fill.made wr _ _
      have b1 : Below wr.heap.size wr wb := by rw [← hwb]; exact (Below.refl _ _).alloc (Nat.le_refl _) _
      have hbk := own_bks (own_below' hown b1) hlj.symm
      have hma := arena_any wb 32 16384 (some ⟨wr.heap.size, 0, none⟩) p z f1.reads (by omega) (by omega) (by omega) (by omega) (by rw [hzl]; omega)
      rw [hzl] at hma
      have HMA := Lib.hid hma
      have HK3 := Lib.hid (hb.trans (b1.mono hBw))
      have HBK := Lib.hid hbk
      have HWB := Lib.hid hwb
      have HZL := Lib.hid hzl
      have HTI := Lib.hid htl
      have HLJ := Lib.hid hlj
      clear hz hzl hwb f1 b1 hbk hma htl hlj hown hb hp hp184 hj hlt
      go_wp2_with fail
      rw [HWB.out]
      refine HMA.out.mono ?_
      rintro e w4 hmade
      obtain ⟨g, A, c, rfl, hst⟩ := St.made hmade
      have HST := Lib.hid hst
      clear hmade hst HMA HMK HWB
      go_wp2
      go_loopw [13] (fun i wr => ∃ (j : Nat) (A : Option Addr) (c : Nat), i = .int .i64 (j : Int) ∧ j ≤ sl ∧ St wb wr g 32 16384 A c (setAll z (l.take j)) []) (fun i _ => sl - (intOf i).toNat)
      case atStart => exact ⟨0, A, c, rfl, Nat.zero_le _, HST.out⟩
      case round =>
        obtain ⟨j, A, c, rfl, hj, hst⟩ := hrel
        by_cases hlt : j < sl
        · obtain ⟨x, hx⟩ : ∃ x, l[j]? = some x := ⟨l[j]'(by rw [HLJ.out]; exact hlt), List.getElem?_eq_getElem _⟩
          obtain ⟨b, o, rfl, _, hc⟩ := (HBK.out.below hst.bel) (by rw [HLJ.out]; omega)
          obtain ⟨p0, p1, p2⟩ := hc j x hx
          have hji : (j : Int) < (sl : Int) := by omega
          obtain ⟨hset, hxl⟩ := setAll_next HTI.out (Nat.le_refl _) rfl (by rw [HZL.out]; exact Nat.le_refl _) hx
          have hlen := setAll_len HTI.out (by rw [HZL.out]; exact Nat.le_refl _) j
          rw [HZL.out] at hxl hlen
          have HSet := Lib.hid (HS.out wr g 32 16384 c A _ (x.off : Int) (x.size : Int) x.used _ hst.ar (by omega) (by rw [hlen]; omega) (by omega) (by omega) hset)
          have HST2 := Lib.hid hst
          clear hc hx hst hxl hlen hset
          go_wp2_with fail
          refine HSet.out.mono ?_
          rintro e w5 ⟨rfl, hbe⟩
          obtain ⟨A5, c5, hst5⟩ := HST2.out.became hbe
          have HST5 := Lib.hid hst5
          clear hbe hst5 HST2 HSet p0 p1 p2
          dsimp only [errV]
          go_wp2
          go_roundw
          case rel => exact ⟨j + 1, A5, c5, by go_num, by omega, HST5.out⟩
          case measure => simp only [intOf]; omega
        · obtain rfl : sl = j := by omega
          obtain ⟨o1, ho1⟩ : ∃ o1, setAll z l = o1 := ⟨_, rfl⟩
          rw [List.take_of_length_le (Nat.le_of_eq HLJ.out), ho1] at hst
          obtain ⟨a1, a2, _, _⟩ := setAll_spec l z 184 p (Nat.le_refl _) rfl HTI.out (by rw [HZL.out]; exact Nat.le_refl _)
          rw [ho1, HZL.out] at a1
          rw [ho1] at a2
          have hwk := walkB_tile (bs := o1) (l := l) (by rw [a1]; exact HTI.out) a2
          obtain ⟨out, hreb, hLi, hol, hwo⟩ := rebuildB_lists hwk (by omega)
          rw [a1] at hol
          have HReb := Lib.hid (HR.out wr g 32 16384 c A o1 _ hst.ar (by omega) (by omega) hreb)
          have HST3 := Lib.hid hst
          have HLI := Lib.hid hLi
          have HOL := Lib.hid hol
          have HWO := Lib.hid hwo
          clear ho1 hst a1 a2 hwk hreb hLi hol hwo hj hlt HST
          go_wp2_with fail
          refine HReb.out.mono ?_
          rintro e w6 ⟨rfl, hbe⟩
          obtain ⟨A6, c6, hst6⟩ := HST3.out.became hbe
          have HST6 := Lib.hid hst6
          clear hbe hst6 HST3 HReb
          dsimp only [errV]
          go_wp2
          go_loopw [14] (fun i wr => ∃ d : Nat, i = .int .i64 (d : Int) ∧ d ≤ 22 ∧ St wb wr g 32 16384 A6 c6 out []) (fun i _ => 22 - (intOf i).toNat)
          case atStart => exact ⟨0, rfl, Nat.zero_le _, HST6.out⟩
          case round =>
            obtain ⟨d, rfl, hd, hst⟩ := hrel
            clear HST6
            by_cases hd22 : d < 22
            · have hdi : (d : Int) < 22 := by omega
              obtain ⟨B5, hB5⟩ : ∃ B5, wr.heap.size = B5 := ⟨_, rfl⟩
              have HST := Lib.hid hst
              have HB5 := Lib.hid hB5
              have hb5w : wb.heap.size ≤ B5 := by rw [← hB5]; exact hst.size
              have hsl40 : sl ≤ 40 := HLS.out
              clear hst hB5
              generalize wr = w5 at *
              go_wp2
              go_loopw [15, 16] (fun q i wr => ∃ (k : Int) (r fq : Nat) (F : List Nat), i = .int .i64 k ∧ k = (r : Int) - 1 ∧ r ≤ sl ∧ F.length = fq ∧ fq ≤ sl ∧ ((l.drop r).reverse.filter fun x => !x.used && classI (x.size : Int) == (d : Int)).map Bk.off = F ∧ wr.ownsRow B5 3 1 q fq (F.map iV) ∧ Below B5 w5 wr) (fun _ i _ => (intOf i + 1).toNat)
              case atStart => exact ⟨_, sl, 0, [], rfl, rfl, Nat.le_refl _, rfl, Nat.zero_le _, by rw [List.drop_of_length_le (Nat.le_of_eq HLJ.out)]; rfl, World.ownsRow_nil _ _ _ _, Below.refl _ _⟩
              case round =>
                obtain ⟨k, r, fq, F, rfl, hk, hr, hFq, hfs, hF, hown, hb⟩ := hrel
                obtain ⟨A9, c9, rfl⟩ := own_sl hown
                have hBw : B5 ≤ wr.heap.size := by rw [← HB5.out]; exact hb.size
                have hWW : Below wb.heap.size wb wr := HST.out.bel.trans (hb.mono hb5w)
                cases r with
                | zero =>
                  obtain rfl : k = -1 := by omega
                  rw [List.drop_zero] at hF
                  have hF' : freeL l d = F := hF
                  have hst9 := HST.out.below (by rw [HB5.out]; exact hb)
                  have hall := HLI.out.all hd22 (Nat.le_trans (freeL_len l d) (by rw [HLJ.out]; omega))
                  rw [hF'] at hall
                  have HAll := Lib.hid (HA.out wr g 32 16384 c6 A6 out d _ hst9.ar (by omega) (by rw [HOL.out]; omega) hd22 hall)
                  have HOWN := Lib.hid hown
                  have HFQ := Lib.hid hFq
                  have HST9 := Lib.hid hst9
                  clear hF hF' hst9 hall hown hFq hb hk hWW
                  go_wp2_with fail
                  refine HAll.out.mono ?_
                  rintro e9 w9 ⟨A10, c10, rfl, hown, hb⟩
                  dsimp only [Option.getD, Option.isSome, errV] at hown ⊢
                  rw [HFQ.out] at hown ⊢
                  have hsm := ints_same w9 A10 A9 c10 c9 (nats F) (own_ints hown HFQ.out.symm) (own_ints (own_below' HOWN.out hb) HFQ.out.symm) (by rw [nats_len, HFQ.out]; omega)
                  rw [nats_len, HFQ.out] at hsm
                  have HSM := Lib.hid hsm
                  have HST10 := Lib.hid (HST9.out.below hb)
                  clear hown hb hsm HAll HST9 HOWN
                  go_wp2_with fail
                  refine HSM.out.mono ?_
                  rintro e10 w10 ⟨rfl, hb⟩
                  have HST11 := Lib.hid (HST10.out.below hb)
                  clear hb HSM HST10
                  go_wp2
                  go_roundw
                  case rel => exact ⟨d + 1, by go_num, by omega, HST11.out⟩
                  case measure => simp only [intOf]; omega
                | succ r =>
                  obtain rfl : k = (r : Int) := by omega
                  obtain ⟨x, hx⟩ : ∃ x, l[r]? = some x := ⟨l[r]'(by rw [HLJ.out]; omega), List.getElem?_eq_getElem _⟩
                  obtain ⟨b, o, rfl, _, hc⟩ := (HBK.out.below hWW) (by rw [HLJ.out]; omega)
                  obtain ⟨p0, p1, p2⟩ := hc r x hx
                  have hm := (tile_mem l 184 p HTI.out).2 x (List.mem_of_getElem? hx)
                  obtain ⟨cl, hcl, hcl22⟩ := class_nat hm.2.2.1
                  have hnx := freeL_drop l d r x hx
                  rw [hF] at hnx
                  have hm' := (isSz_iff _).1 hm.2.2.1
                  have HCL := Lib.hid (fun W => rclass_any W (x.size : Int) (by omega) (cl : Int) hcl)
                  have hri : (r : Int) < (sl : Int) := by omega
                  have HB := Lib.hid hb
                  have HFQ := Lib.hid hFq
                  have HOWN := Lib.hid hown
                  obtain ⟨xo, xs, xu⟩ := x
                  dsimp only at p0 p1 p2 hnx HCL hcl
                  have hmo : xo ≤ 20000 := by have := hm.2.1; dsimp only at this; omega
                  cases xu with
                  | true =>
                    rw [if_neg (by simp), List.append_nil] at hnx
                    have HNX := Lib.hid hnx
                    clear hc hx hm hm' hcl hnx hF hown hFq hb hk HCL
                    go_wp2
                    go_roundw
                    case rel => exact ⟨_, r, fq, F, by go_num, by go_num, by omega, HFQ.out, hfs, HNX.out, HOWN.out, HB.out⟩
                    case measure => simp only [intOf]; omega
                  | false =>
                    by_cases hcd : cl = d
                    · have g1 : ((cl : Int) == (d : Int)) = true := by rw [beq_iff_eq]; omega
                      rw [if_pos ⟨rfl, by rw [hcl, hcd]⟩] at hnx
                      have HNX := Lib.hid hnx
                      have hfs1 : fq + 1 ≤ sl := by
                        have e := congrArg List.length hnx
                        rw [List.length_append, List.length_singleton, hFq, List.length_map] at e
                        rw [← e]
                        exact Nat.le_trans (List.length_filter_le _ _) (by rw [List.length_reverse, List.length_drop, HLJ.out]; omega)
                      obtain ⟨w6, hw6⟩ : ∃ w6, wr.alloc (.cells #[.int .i64 (xo : Int)] 3) = w6 := ⟨_, rfl⟩
                      have b6 : Below wr.heap.size wr w6 := by rw [← hw6]; exact (Below.refl _ _).alloc (Nat.le_refl _) _
                      have n6 : w6.heap[wr.heap.size]? = some (.cells #[.int .i64 (xo : Int)] 3 (0, 0)) := by rw [← hw6]; exact heap_alloc_new wr _
                      have own6 := own_below' hown b6
                      have hr6 : Rw (fun _ => False) w6 (some ⟨wr.heap.size, 0, none⟩) [xo] := fun _ => ⟨wr.heap.size, 0, rfl, heap_lt n6, id, fun j x hx => by
                        rw [Nat.zero_add, cell_of_row w6 _ j _ _ (0, 0) n6]
                        match j, hx with
                        | 0, hx => simp at hx; subst hx; rfl⟩
                      have h6B : B5 ≤ w6.heap.size := Nat.le_trans hBw b6.size
                      have HALT : Hid (∀ k, (Value.slice A9 fq c9).ownBlock = some k → B5 ≤ k ∧ k < wr.heap.size) := hown.lt
                      have OWN6 := Lib.hid own6
                      have HR6 := Lib.hid hr6
                      have HB6 := Lib.hid (hb.trans (b6.mono hBw))
                      have HW6 := Lib.hid hw6
                      clear hc hx hm hm' hcl hnx hF hown hFq hb hk own6 hr6 b6 n6 hw6 hcd
                      go_wp2_with fail
                      refine (HCL.out _).mono ?_
                      rintro e w7 ⟨rfl, rfl⟩
                      clear HCL
                      go_wp2_with (first
                        | (rw [HW6.out])
                        | (at_builtin; go_must (refine append_ints rfl _ _ rfl B5 _ fq F rfl OWN6.out (fun _ => False) (some ⟨wr.heap.size, 0, none⟩) 1 [xo] rfl HR6.out (fun h => by cases h) (by rw [List.length_singleton]; omega) h6B ?_); intro x7 w7 own7 gr7;
                           have HB7 : Hid (Below B5 w5 w7) := HB6.out.grown gr7 h6B (fun k hk => (HALT.out k hk).1); have OWN7 : Hid (w7.ownsRow B5 3 1 x7 (fq + 1) ((F ++ [xo]).map iV)) := own7; clear own7 gr7)
                        | fail)
                      go_roundw
                      case rel => exact ⟨_, r, fq + 1, F ++ [xo], by go_num, by go_num, by omega, by rw [List.length_append, List.length_singleton, HFQ.out], hfs1, HNX.out, OWN7.out, HB7.out⟩
                      case measure => simp only [intOf]; omega
                    · have g1 : ((cl : Int) == (d : Int)) = false := by rw [beq_eq_false_iff_ne]; omega
                      rw [if_neg (fun h => hcd (by have := h.2; rw [hcl] at this; omega)), List.append_nil] at hnx
                      have HNX := Lib.hid hnx
                      clear hc hx hm hm' hcl hnx hF hown hFq hb hk hcd
                      go_wp2_with fail
                      refine (HCL.out _).mono ?_
                      rintro e w7 ⟨rfl, rfl⟩
                      clear HCL
                      go_wp2
                      go_roundw
                      case rel => exact ⟨_, r, fq, F, by go_num, by go_num, by omega, HFQ.out, hfs, HNX.out, HOWN.out, HB.out⟩
                      case measure => simp only [intOf]; omega
            · have HKK := Lib.hid (HK3.out.trans (hst.bel.mono (by have := HK3.out.size; have := HB0.out; omega)))
              have hsz := HSZ.out
              have hsl40 : sl ≤ 40 := HLS.out
              cases hs : isSz sz with
              | false =>
                have hc0 : classI sz = -1 := by unfold classI; rw [if_pos hs]
                have HCS := Lib.hid (fun W => rclass_any W sz hsz (-1) hc0)
                clear hst hs hc0
                go_wp2_with fail
                refine (HCS.out _).mono ?_
                rintro e w7 ⟨rfl, rfl⟩
                go_wp2
                go_ret
                exact ⟨rfl, by rw [HB0.out]; exact HKK.out⟩
              | true =>
                obtain ⟨cs, hcs⟩ : ∃ cs : Nat, classI sz = (cs : Int) := ⟨(classI sz).toNat, by
                  have h2 : ¬ classI sz < 0 := by rw [classI_neg]; simp [hs]
                  omega⟩
                obtain ⟨o, hv, ho, hfd, hrm⟩ := fit_found HLI.out (by rw [HLJ.out]; exact HLS.out) sz hs
                have hfi := HF.out wr g 32 16384 c6 A6 out sz hst.ar (by omega) (by rw [HOL.out]; omega) hsz
                rw [hv] at hfi
                have HFi := Lib.hid hfi
                have HCS := Lib.hid (fun W => rclass_any W sz hsz (cs : Int) hcs)
                obtain ⟨q0, hq0⟩ : ∃ q0, ((o : Int) == 0) = q0 := ⟨_, rfl⟩
                rw [hq0] at hfd hrm
                have HFD := Lib.hid hfd
                have HRM := Lib.hid hrm
                have HST := Lib.hid hst
                clear hst hs hcs hv hfi hfd hrm
                go_wp2_with fail
                refine (HCS.out _).mono ?_
                rintro e w7 ⟨rfl, rfl⟩
                go_wp2_with fail
                refine HFi.out.mono ?_
                rintro e w8 ⟨rfl, hb⟩
                have HST8 := Lib.hid (HST.out.below hb)
                have HK8 := Lib.hid (HKK.out.trans (hb.mono (by have := HKK.out.size; have := HB0.out; omega)))
                clear hb HST HFi HCS HKK
                go_wp2
                go_loopw [21, 22, 23] (fun rm fd i wr => ∃ (j : Nat) (rb fb : Bool), i = .int .i64 (j : Int) ∧ j ≤ sl ∧ rm = .bool rb ∧ fd = .bool fb ∧ ((l.take j).any fun x => !x.used && decide (sz ≤ (x.size : Int))) = rb ∧ (q0 || (l.take j).any fun x => x.off == o && !x.used && decide (sz ≤ (x.size : Int))) = fb ∧ w8 = wr) (fun _ _ i _ => sl - (intOf i).toNat)
                case atStart => exact ⟨0, false, q0, rfl, Nat.zero_le _, rfl, rfl, rfl, by simp, rfl⟩
                case round =>
                  obtain ⟨j, rb, fb, rfl, hj, rfl, rfl, hrb, hfb, rfl⟩ := hrel
                  by_cases hlt : j < sl
                  · obtain ⟨x, hx⟩ : ∃ x, l[j]? = some x := ⟨l[j]'(by rw [HLJ.out]; exact hlt), List.getElem?_eq_getElem _⟩
                    obtain ⟨b, a, rfl, _, hc⟩ := (HBK.out.below HST8.out.bel) (by rw [HLJ.out]; omega)
                    obtain ⟨p0, p1, p2⟩ := hc j x hx
                    have hji : (j : Int) < (sl : Int) := by omega
                    have h1 := any_take (p := fun x : Bk => !x.used && decide (sz ≤ (x.size : Int))) hx
                    have h2 := any_take (p := fun x : Bk => x.off == o && !x.used && decide (sz ≤ (x.size : Int))) hx
                    rw [hrb] at h1
                    obtain ⟨xo, xs, xu⟩ := x
                    dsimp only at p0 p1 p2 h1 h2
                    obtain ⟨t, ht⟩ : ∃ t, decide (sz ≤ (xs : Int)) = t := ⟨_, rfl⟩
                    obtain ⟨q, hq⟩ : ∃ q, ((xo : Int) == (o : Int)) = q := ⟨_, rfl⟩
                    have hq' : (xo == o) = q := by rw [← hq, Bool.eq_iff_iff, beq_iff_eq, beq_iff_eq]; omega
                    have h3 : (q0 || (l.take (j + 1)).any fun x => x.off == o && !x.used && decide (sz ≤ (x.size : Int))) = (fb || (q && !xu && t)) := by
                      rw [h2, ← Bool.or_assoc, hfb, hq', ht]
                    rw [ht] at h1
                    have H1 := Lib.hid h1
                    have H3 := Lib.hid h3
                    clear hc hx h1 h2 h3 hrb hfb hq'
                    cases rb <;> cases fb <;> cases xu <;> cases t <;> cases q <;>
                    · go_wp2
                      go_roundw
                      case rel => exact ⟨j + 1, _, _, by go_num, by omega, rfl, rfl, H1.out.trans (by rfl), H3.out.trans (by rfl), trivial⟩
                      case measure => simp only [intOf]; omega
                  · obtain rfl : sl = j := by omega
                    rw [List.take_of_length_le (Nat.le_of_eq HLJ.out)] at hrb hfb
                    rw [HRM.out] at hrb
                    rw [HFD.out] at hfb
                    subst hrb hfb
                    have hq1 : ((o : Int) != 0) = !q0 := by rw [← hq0]; rfl
                    clear hj hlt
                    cases q0 <;>
                    · go_wp2
                      go_ret
                      exact ⟨rfl, by rw [HB0.out]; exact HK8.out⟩

set_option maxRecDepth 100000 in
set_option maxHeartbeats 1000000 in
theorem fa_long (HS : SetC) (HF : FindC) (HR : RebuildC) (w : World) (A1 : Option Addr) (k1 sl : Nat) (hl : 40 < sl) (A2 : Option Addr) (k2 ul : Nat) (sz : Int) :
    Calls Try.prog 4 #[.slice A1 sl k1, .slice A2 ul k2, .int .i64 sz] w fun e w' => e = .returned (.bool true) ∧ Below w.heap.size w w' := by
  have s0 : decide ((40 : Int) < (sl : Int)) = true := decide_eq_true (by omega)
  have HUP := Lib.hid (up10_any HS HF HR)
  clear HS HF HR
  go_enter Try.func4, Try.ntmps4
  go_wp2_with fail
  refine (HUP.out _).mono ?_
  rintro e w1 ⟨rfl, hb⟩
  have HK := Lib.hid hb
  clear hb
  go_wp2
  go_ret
  exact ⟨rfl, HK.out⟩

theorem fa_any (HS : SetC) (HF : FindC) (HR : RebuildC) (HA : AllC) (w : World) (A1 : Option Addr) (k1 : Nat) (ls : List Int) (hI : IRd w w.heap.size A1 ls) (A2 : Option Addr) (k2 : Nat) (us : List Bool) (hU : Boo w A2 us) (sz : Int) (hsz : -9223372036854775808 ≤ sz ∧ sz ≤ 9223372036854775807) :
    Calls Try.prog 4 #[.slice A1 ls.length k1, .slice A2 us.length k2, .int .i64 sz] w fun e w' => e = .returned (.bool true) ∧ Below w.heap.size w w' := by
  by_cases hl : 40 < ls.length
  · exact fa_long HS HF HR w A1 k1 ls.length hl A2 k2 us.length sz
  · exact fa_main HS HF HR HA w A1 k1 ls hI (by omega) A2 k2 us hU sz hsz

end Go.Proofs.Ytjokbjmfnidmjaa
