/- Texts of mine, joined. -/
import Derived.Test.YtnicenfdlfffpaaGreatDoorM5
namespace Go.Proofs.YtnicenfdlfffpaaGreatDoor
def Hp.swallow (H : Hp) (i : Nat) : Hp := if aaH H.blks i = true then (H.out (i + 1)).drop (i + 1) else H
def aa1 (l : List Bk) (i : Nat) : Nat := (aag l i).size + (if aaH l i = true then (aag l (i + 1)).size else 0)
def Hp.widen (H : Hp) (i : Nat) : Hp := (H.swallow i).size i (aa1 H.blks i)
def Hp.copyD (H : Hp) (p o : Nat) : Hp := { H with ds := H.ds.set p (H.ds.getD o aaR) }
def Hp.moveD (H : Hp) (p o : Int) : Hp := match atB p H.blks, atB o H.blks with
 | some ip, some io => H.copyD ip io
 | _, _ => H
def abp (H : Hp) (i s : Nat) : Bool := decide ((aag H.blks i).off + aa1 H.blks i = lenB H.blks) && decide (lenB H.blks + s - aa1 H.blks i <= H.cap)
def Hp.resize (H : Hp) (o : Int) (s : Nat) : (Nat × Int) × Hp := match aaK H.blks o with
 | none => ((0, 3), H)
 | some i => if s <= (aag H.blks i).size then (((aag H.blks i).off, 0), H.cut i s)
  else if s <= aa1 H.blks i then (((aag H.blks i).off, 0), (H.widen i).cut i s)
  else if abp H i s = true then (((aag H.blks i).off, 0), (H.widen i).size i s)
  else match (H.take s).1 with
   | none => ((0, 5), H)
   | some p => ((p, 0), (((H.take s).2.moveD (p : Int) o).giveO o).getD ((H.take s).2.moveD (p : Int) o))
section
variable {H : Hp} {i s N : Nat}
theorem adb (h : aaH H.blks i = true) : H.swallow i = (H.out (i + 1)).drop (i + 1) := by unfold Hp.swallow; rw [if_pos h]
theorem aeu (h : aaH H.blks i = false) : H.swallow i = H := by unfold Hp.swallow; rw [h, if_neg (by decide)]
theorem acx (h : aaH H.blks i = true) : aa1 H.blks i = (aag H.blks i).size + (aag H.blks (i + 1)).size := by unfold aa1; rw [if_pos h]
theorem acT (h : aaH H.blks i = false) : aa1 H.blks i = (aag H.blks i).size := by unfold aa1; rw [h, if_neg (by decide)]; rfl
theorem aev (h : aaH H.blks i = true) : i + 1 < H.blks.length := by
 unfold aaH at h; rw [Bool.and_eq_true, decide_eq_true_eq] at h; exact h.1
theorem aew (h : aaH H.blks i = true) : (H.widen i).blks = ((H.out (i + 1)).join i).blks /\ (H.widen i).ds = ((H.out (i + 1)).join i).ds := by
 have hlt := aev h; have hb : aag ((H.out (i + 1)).drop (i + 1)).blks i = aag H.blks i := by
  show aag (H.blks.take (i + 1) ++ H.blks.drop (i + 1 + 1)) i = _; unfold aag; rw [List.getD_eq_getElem?_getD, List.getElem?_append_left (by rw [List.length_take]; omega), List.getElem?_take_of_lt (by omega), <- List.getD_eq_getElem?_getD]
 unfold Hp.widen; rw [adb h, acx h]; refine ⟨?_, rfl⟩; rw [ab7 (H.out (i + 1)) hlt]; show (H.blks.take (i + 1) ++ H.blks.drop (i + 1 + 1)).set i { aag ((H.out (i + 1)).drop (i + 1)).blks i with size := _ } = _; rw [hb, List.set_append_left _ _ (by rw [List.length_take]; omega)]; rw [List.take_add_one, List.getElem?_eq_getElem (by omega)]; rw [Option.toList_some, List.set_append_right _ _ (by rw [List.length_take]; omega), List.length_take, show i - min i H.blks.length = 0 by omega]; simp; rfl
theorem aex (h : aaH H.blks i = false) (hi : i < H.blks.length) : (H.widen i).blks = H.blks /\ (H.widen i).ds = H.ds := by
 unfold Hp.widen; rw [aeu h, acT h]; refine ⟨?_, rfl⟩; show H.blks.set i { aag H.blks i with size := (aag H.blks i).size } = H.blks; have e : ({ aag H.blks i with size := (aag H.blks i).size } : Bk) = aag H.blks i := rfl; rw [e]; have hg := aax hi; rw [List.getElem?_eq_getElem hi] at hg; injection hg with hg; rw [<- hg]; exact List.set_getElem_self hi
theorem Hp.Ok.widen (h : H.Ok) (hi : i < H.blks.length) : (H.widen i).Ok /\ i < (H.widen i).blks.length /\ aag (H.widen i).blks i = { aag H.blks i with size := aa1 H.blks i } := by
 cases hn : aaH H.blks i with
 | true =>
  obtain ⟨e1, e2⟩ := aew hn; have hj := Hp.Ok.join (Hp.Ok.out (i := i + 1) h) (aev hn); have ha := acR (H.out (i + 1)) (i := i) (aev hn); refine ⟨⟨by rw [e1]; exact hj.tl, by rw [e1]; exact hj.le, by rw [e1, e2]; exact hj.dl⟩, by rw [e1]; exact ha.1, ?_⟩; rw [e1, ha.2.1, acx hn]; rfl
 | false =>
  obtain ⟨e1, e2⟩ := aex hn hi; refine ⟨⟨by rw [e1]; exact h.tl, by rw [e1]; exact h.le, by rw [e1, e2]; exact h.dl⟩, by rw [e1]; exact hi, ?_⟩; rw [e1, acT hn]
theorem Hp.Few.widen (h : H.Few N) : (H.widen i).Few N := by
 unfold Hp.widen Hp.swallow; split
 · exact Hp.Few.out (i := i + 1) h
 · exact h
theorem widen_cap : (H.widen i).cap = H.cap := by unfold Hp.widen Hp.swallow; split <;> rfl
theorem Hp.Dl.swallow (h : H.Dl) : (H.swallow i).Dl := by
 unfold Hp.swallow; split
 · exact Hp.Dl.drop (Hp.Dl.out h)
 · exact h
theorem Hp.Dl.widen (h : H.Dl) : (H.widen i).Dl := Hp.Dl.size (Hp.Dl.swallow h)
theorem Hp.Dl.moveD {p o : Int} (h : H.Dl) : (H.moveD p o).Dl := by
 unfold Hp.moveD; split
 · show (H.ds.set _ _).length = _; rw [List.length_set]; exact h
 · exact h
theorem moveD_cap {p o : Int} : (H.moveD p o).cap = H.cap := by unfold Hp.moveD; split <;> rfl
theorem Hp.Dl.resize {o : Int} (h : H.Dl) : (H.resize o s).2.Dl := by
 unfold Hp.resize; split
 · exact h
 · split
   · exact h.cut
   · split
     · exact h.widen.cut
     · split
       · exact h.widen.size
       · split
         · exact h
         · rename_i p _
           cases hg : ((H.take s).2.moveD (p : Int) o).giveO o with
           | none => exact h.take.moveD
           | some H2 => exact h.take.moveD.giveO hg
theorem resize_cap {o : Int} : (H.resize o s).2.cap = H.cap := by
 unfold Hp.resize; split
 · rfl
 · split
   · exact cut_cap
   · split
     · exact cut_cap.trans widen_cap
     · split
       · exact widen_cap
       · split
         · rfl
         · rename_i p _
           cases hg : ((H.take s).2.moveD (p : Int) o).giveO o with
           | none => exact moveD_cap.trans take_cap
           | some H2 => exact (akT hg).trans (moveD_cap.trans take_cap)
end
theorem adH {l : List Bk} {k : Nat} {v x : Bk} (hx : x ∈ l) (hne : x ≠ aag l k) : x ∈ l.set k v := by
 obtain ⟨j, hj⟩ := List.mem_iff_getElem?.1 hx; have hjk : k ≠ j := fun e => by
  subst e; exact hne (abo hj).symm
 exact List.mem_of_getElem? ((List.getElem?_set_ne hjk).trans hj)
section
variable {H : Hp} {i s : Nat} {x : Bk}
theorem ajs (hi : i + 1 < H.blks.length) (h1 : (aag H.blks i).used = false) (h2 : (aag H.blks (i + 1)).used = false) (hx : x ∈ H.blks) (hu : x.used = true) : x ∈ (H.join i).blks := by
 obtain ⟨j, hj⟩ := List.mem_iff_getElem?.1 hx; have e1 : j ≠ i := fun e => by subst e; rw [abo hj, hu] at h1; cases h1
 have e2 : j ≠ i + 1 := fun e => by subst e; rw [abo hj, hu] at h2; cases h2
 rw [ab7 H hi]; rcases Nat.lt_or_ge j i with h | h
 · exact List.mem_append_left _ (List.mem_of_getElem? ((List.getElem?_take_of_lt h).trans hj))
 · refine List.mem_append_right _ (List.mem_cons_of_mem _ ?_); refine List.mem_of_getElem? (i := j - (i + 2)) ?_; rw [List.getElem?_drop, show i + 2 + (j - (i + 2)) = j by omega]; exact hj
theorem alh (h : aaH H.blks i = true) : (aag H.blks (i + 1)).used = false := by
 unfold aaH at h; rw [Bool.and_eq_true] at h; simpa using h.2
theorem ahy (h : ab5 H.blks i = true) : 0 < i /\ (aag H.blks (i - 1)).used = false := by
 unfold ab5 at h; rw [Bool.and_eq_true, decide_eq_true_eq] at h; exact ⟨h.1, by simpa using h.2⟩
theorem ajt (hi : i < H.blks.length) (hx : x ∈ H.blks) (hu : x.used = true) (hne : x ≠ aag H.blks i) : x ∈ (H.give i).blks := by
 have m1 : x ∈ ((H.use i false).wipe i).blks := adH (v := { aag H.blks i with used := false }) hx hne; have f1 : aag ((H.use i false).wipe i).blks i = { aag H.blks i with used := false } := by
  show aag (H.blks.set i _) i = _; rw [aa3 _ _ _ _ hi, if_pos rfl]
 have l1 : i < ((H.use i false).wipe i).blks.length := by show i < (H.blks.set i _).length; rw [List.length_set]; exact hi
 unfold Hp.give; obtain ⟨H1, hH1⟩ := nmE ((H.use i false).wipe i); rw [hH1] at m1 f1 l1 ⊢; have f1u : (aag H1.blks i).used = false := by rw [f1]
 have m2 : x ∈ (H1.giveB i).blks := by
  unfold Hp.giveB; split
  · rename_i hn; exact ajs (H := H1.out (i + 1)) (aev hn) f1u (alh hn) m1 hu
  · exact m1
 have l2 := ajq (H := H1) l1; have f2 : (aag (H1.giveB i).blks i).used = false := by
  unfold Hp.giveB; split
  · rename_i hn; rw [(acR (H1.out (i + 1)) (i := i) (aev hn)).2.1]; exact f1u
  · exact f1u
 unfold Hp.giveC; split
 · rename_i hp; obtain ⟨hp1, hp2⟩ := ahy hp; have e : i - 1 + 1 = i := by omega
   exact ajs (H := (H1.giveB i).out (i - 1)) (i := i - 1) (by show i - 1 + 1 < (H1.giveB i).blks.length; omega) hp2 (by rw [e]; exact f2) m2 hu
 · exact m2
theorem aoF (ht : abU 184 H.blks (lenB H.blks)) (hi : i < H.blks.length) (hs : aaG (s : Int) = true) (hx : x ∈ H.blks) (hu : x.used = true) (hne : x ≠ aag H.blks i) : x ∈ (H.cut i s).blks := by
 unfold Hp.cut; split
 · exact adH (v := { aag H.blks i with used := true }) hx hne
 · rename_i hge; obtain ⟨y, hy⟩ : ∃ y : Bk, (⟨(aag H.blks i).off + s, (aag H.blks i).size - s, true⟩ : Bk) = y := ⟨_, rfl⟩; rw [hy]; have hb := aeb (s := s) H hi y; have hln := ags (s := s) H hi y; obtain ⟨H2, hH2⟩ := nmE (((H.use i true).size i s).put (i + 1) y); rw [hH2] at hb hln ⊢; have hss := (aac _).1 hs; have hx2 : x ∈ H2.blks := by
    rw [hb]; obtain ⟨j, hj⟩ := List.mem_iff_getElem?.1 hx; have e1 : j ≠ i := fun e => by subst e; exact hne (abo hj).symm
    rcases Nat.lt_or_ge j i with h | h
    · exact List.mem_append_left _ (List.mem_of_getElem? ((List.getElem?_take_of_lt h).trans hj))
    · refine List.mem_append_right _ (List.mem_cons_of_mem _ (List.mem_cons_of_mem _ ?_)); refine List.mem_of_getElem? (i := j - (i + 1)) ?_; rw [List.getElem?_drop, show i + 1 + (j - (i + 1)) = j by omega]; exact hj
   have hat : aag H2.blks (i + 1) = y := abo (by
    rw [hb, List.getElem?_append_right (by rw [List.length_take]; omega), List.length_take, show i + 1 - min i H.blks.length = 1 by omega]; rfl)
   refine ajt (H := H2) (by omega) hx2 hu (fun e => ?_); rw [hat, <- hy] at e; have hxs := (aac _).1 ((aai _ _ _ ht).2 x hx).2.2.1; have e2 : x.off = (aag H.blks i).off + s := by rw [e]
   rcases aa9 _ _ _ ht x hx _ (List.mem_of_getElem? (aax hi)) with h | h | h
   · exact hne h
   · omega
   · omega
theorem agG (ht : abU 184 H.blks (lenB H.blks)) (hs : aaG (s : Int) = true) (hfr : ∀ i, H.find s = some i -> i < H.blks.length /\ (aag H.blks i).used = false) (hx : x ∈ H.blks) (hu : x.used = true) : x ∈ (H.take s).2.blks := by
 unfold Hp.take; split
 · rename_i i hf; obtain ⟨h1, h2⟩ := hfr i hf; exact aoF (H := H.out i) ht h1 hs hx hu (fun e => by
    have e : x = aag H.blks i := e; rw [e, h2] at hu; cases hu)
 · split
   · exact hx
   · split
     · rename_i htl; have hn : 0 < H.blks.length := List.length_pos_of_mem hx; have hu0 : (aag H.blks (H.blks.length - 1)).used = false := by
        cases hu' : (aag H.blks (H.blks.length - 1)).used with
        | false => rfl
        | true => unfold abk at htl; rw [if_neg (by omega), if_pos hu'] at htl; omega
       obtain ⟨k, hk⟩ := nmE (H.blks.length - 1); rw [hk] at hu0 ⊢; have hne : x ≠ aag H.blks k := fun e => by rw [e, hu0] at hu; cases hu
       have m1 : x ∈ ((H.out k).size k s).blks := adH (v := { aag H.blks k with size := s }) hx hne; refine adH (l := ((H.out k).size k s).blks) (k := k) (v := { aag ((H.out k).size k s).blks k with used := true }) m1 (fun e => ?_); have e2 : aag ((H.out k).size k s).blks k = { aag H.blks k with size := s } := by
        show aag (H.blks.set k _) k = _; rw [aa3 _ _ _ _ (by omega), if_pos rfl]; rfl
       rw [e2] at e; rw [e] at hu; have hu : (aag H.blks k).used = true := hu; rw [hu0] at hu
       cases hu
     · show x ∈ H.blks.take _ ++ _ :: H.blks.drop _; rw [List.take_length]; exact List.mem_append_left _ hx
end
section
variable {bs : List UInt8} {H : Hp} {s : Nat}
theorem Rt.moves (h : Rt bs H) (hs : aaG (s : Int) = true) {o : Int} : ∀ i q, aaK H.blks o = some i -> (H.take s).1 = some q -> ∃ iq io, atB (q : Int) (H.take s).2.blks = some iq /\ atB o (H.take s).2.blks = some io := fun i q hu hq => by
 have ht : abU 184 H.blks (Go.Proofs.YtnicenfdlfffpaaGreatDoor.lenB H.blks) := by rw [h.lenE]; exact (aaq h.walk).2.1
 obtain ⟨x, hx, hxo, _⟩ := h.what hs hq; obtain ⟨iq, hiq⟩ := ado hx; have hib : i < H.blks.length /\ ((aag H.blks i).off : Int) = o /\ (aag H.blks i).used = true := by
  unfold aaK at hu; split at hu
  · cases hu
  · rename_i j hj; split at hu
    · rename_i hus; injection hu with hu; subst hu; exact ⟨(abs hj).1, (abs hj).2, hus⟩
    · cases hu
 obtain ⟨io, hio⟩ := ado (agG ht hs (fun j hj => by obtain ⟨a, _, c⟩ := h.found hs hj; exact ⟨a, c⟩) (List.mem_of_getElem? (aax hib.1)) hib.2.2); rw [hxo] at hiq; rw [hib.2.1] at hio; exact ⟨iq, io, hiq, hio⟩
end
def afS (bs bs' : List UInt8) (x : Bk) : Prop := bs'.length = bs.length /\ ∀ q, (q < x.off + 8 \/ x.off + x.size <= q + 8) -> bs'[q]? = bs[q]?
theorem afT {bs bs' : List UInt8} {c : Nat} : ∀ (k last p : Nat) (l : List Nat), ad2 bs c k last p = some l -> (∀ o ∈ l, aat bs' o (c : Int) = true /\ aae bs' (o + 16) = aae bs (o + 16) /\ aae bs' (o + 8) = aae bs (o + 8)) -> ad2 bs' c k last p = some l
 | 0, last, p, l, h, _ => by
  unfold ad2 at h ⊢; split at h
  · rename_i hp; rw [if_pos hp]; exact h
  · cases h
 | k + 1, last, p, l, h, hm => by
  unfold ad2 at h ⊢; by_cases hp : p = 0
  · rw [if_pos hp] at h ⊢; exact h
  · rw [if_neg hp] at h ⊢; dsimp only at h ⊢; by_cases hc : aat bs p (c : Int) = true /\ aae bs (p + 16) = last
    · rw [if_pos hc] at h
      cases hr : ad2 bs c k p (aae bs (p + 8)) with
      | none => rw [hr] at h; cases h
      | some l' =>
       rw [hr] at h; injection h with h; subst h; obtain ⟨m1, m2, m3⟩ := hm p (by simp); rw [if_pos ⟨m1, m2.trans hc.2⟩, m3, afT k p _ l' hr (fun o ho => hm o (by simp [ho]))]; rfl
    · rw [if_neg hc] at h; cases h
theorem afU {bs bs' : List UInt8} {l : List Bk} (h : ∀ c, c < 22 -> aep bs' c = aep bs c) : ∀ (k c : Nat) (fr : Int), c + k = 22 -> aeN bs' l k c fr = aeN bs l k c fr
 | 0, c, fr, _ => rfl
 | k + 1, c, fr, hck => by
  unfold aeN; rw [h c (by omega)]; split
  · rfl
  · rw [afU h k (c + 1) _ (by omega)]
section
variable {bs bs' : List UInt8} {H : Hp} {x : Bk}
theorem Rt.fill (h : Rt bs H) (hx : x ∈ H.blks) (hu : x.used = true) (ha : afS bs bs' x) : Rt bs' H := by
 obtain ⟨h184, ht, hg⟩ := aaq h.walk; obtain ⟨hl, hq⟩ := ha; have hxm := (aai _ _ _ ht).2 x hx; have hxs := (aac _).1 hxm.2.2.1; have hw : ∀ p, (p + 8 <= x.off + 8 \/ x.off + x.size <= p + 8) -> aae bs' p = aae bs p := fun p hp => acE bs bs' p fun i h1 h2 => hq i (by omega); have hget : ∀ y ∈ H.blks, abt bs' (y.off : Int) = some y := fun y hy => by
  have hym := (aac _).1 ((aai _ _ _ ht).2 y hy).2.2.1; refine adA bs bs' y hl (hg y hy) ?_ ?_
  · rcases aa9 _ _ _ ht y hy x hx with rfl | h' | h'
    · exact hw _ (.inl (by omega))
    · exact hw _ (.inl (by omega))
    · exact hw _ (.inr (by omega))
  · rcases aa9 _ _ _ ht y hy x hx with rfl | h' | h'
    · exact hw _ (.inr (by omega))
    · exact hw _ (.inl (by omega))
    · exact hw _ (.inr (by omega))
 have hwalk : aco bs' = some H.blks := adB (by rw [hl]; exact ht) hget; have hall : ∀ c, c < 22 -> aep bs' c = some (H.lists c) := fun c hc => by
  have h1 := h.all_ c hc; unfold aep at h1 ⊢; rw [hl, hw 0 (.inl (by omega)), hw (8 + 8 * c) (.inl (by omega))]; split at h1
  · cases h1
  · rename_i hn; rw [if_neg hn]; split at h1
    · cases h1
    · rename_i hb; rw [if_neg hb]; refine afT _ _ _ _ h1 fun o ho => ?_; obtain ⟨y, hy, hyo, hyu, hyc⟩ := abL ((h.nfree.1 c hc).2 o ho); have hym := (aac _).1 ((aai _ _ _ ht).2 y hy).2.2.1; have hye := ((aai _ _ _ ht).2 y hy).2.1; have hmm := adV (acF (h.all_ c hc) o ho); subst hyo; have hap : y.off + y.size <= x.off \/ x.off + x.size <= y.off := by
       rcases aa9 _ _ _ ht y hy x hx with h' | h' | h'
       · rw [h', hu] at hyu; cases hyu
       · exact .inl h'
       · exact .inr h'
      refine ⟨?_, ?_, ?_⟩
      · unfold aat; rw [hget y hy]; simp only [Bool.and_eq_true, decide_eq_true_eq, beq_iff_eq, Bool.not_eq_true']; exact ⟨hmm.1, hyu, hyc⟩
      · rcases hap with h' | h'
        · exact hw _ (.inl (by omega))
        · exact hw _ (.inr (by omega))
      · rcases hap with h' | h'
        · exact hw _ (.inl (by omega))
        · exact hw _ (.inr (by omega))
 refine ⟨hwalk, hall, ?_, by rw [hl]; exact h.len⟩; have hk := h.chk; unfold acM at hk ⊢; rw [h.walk] at hk; rw [hwalk]; dsimp only at hk ⊢; have hn0 : akn bs' 0 = akn bs 0 := by
  unfold akn word?; rw [hl]; split
  · show (some (aae bs' 0)).getD 0 = (some (aae bs 0)).getD 0; rw [hw 0 (.inl (by omega))]
  · rfl
 rw [hn0, afU (fun c hc => (hall c hc).trans (h.all_ c hc).symm) 22 0 _ rfl]; exact hk
theorem aef (d : Nat) (cs : List UInt8) (h1 : x.off + 8 <= d) (h2 : d + cs.length + 8 <= x.off + x.size) (h3 : x.off + x.size <= bs.length) : afS bs (lay bs d cs) x := by
 have hle : d <= bs.length := by omega
 refine ⟨?_, fun q hq => ?_⟩
 · unfold lay; simp only [List.length_append, List.length_take, List.length_drop]; omega
 · unfold lay; rcases Nat.lt_or_ge q d with h | h
   · rw [List.getElem?_append_left (by rw [List.length_take]; omega), List.getElem?_take_of_lt h]
   · have hq2 : d + cs.length <= q := by omega
     rw [List.getElem?_append_right (by rw [List.length_take]; omega), List.length_take, List.getElem?_append_right (by omega), List.getElem?_drop]; congr 1; omega
theorem ahz (bs : List UInt8) (d : Nat) (cs : List UInt8) (hd : d <= bs.length) (k : Nat) (hk : k < cs.length) : (lay bs d cs)[d + k]? = cs[k]? := by
 unfold lay; rw [List.getElem?_append_right (by rw [List.length_take]; omega), List.length_take, List.getElem?_append_left (by omega), show d + k - min d bs.length = k by omega]
end
section
variable {bs : List UInt8} {H : Hp} {i s : Nat} {x : Bk}
theorem acI {l : List Bk} {o : Int} {i : Nat} (h : aaK l o = some i) : i < l.length /\ ((aag l i).off : Int) = o /\ (aag l i).used = true := by
 unfold aaK at h; split at h
 · cases h
 · rename_i j hj; split at h
   · rename_i hu; injection h with h; subst h; exact ⟨(abs hj).1, (abs hj).2, hu⟩
   · cases h
theorem acD {p o : Int} : (H.moveD p o).blks = H.blks := by unfold Hp.moveD; split <;> rfl
theorem ali {o : Int} (hx : x ∈ H.blks) (hu : x.used = true) (hne : (x.off : Int) ≠ o) : x ∈ ((H.giveO o).getD H).blks := by
 unfold Hp.giveO
 cases h : aaK H.blks o with
 | none => exact hx
 | some j =>
  obtain ⟨h1, h2, _⟩ := acI h; exact ajt h1 hx hu (fun e => hne (by rw [e]; exact h2))
theorem Rt.rezHas (h : Rt bs H) (hok : H.Ok) (hs : aaG (s : Int) = true) {o : Int} (he : (H.resize o s).1.2 = 0) : ∃ y ∈ (H.resize o s).2.blks, y.used = true /\ y.off = (H.resize o s).1.1 /\ s <= y.size := by
 unfold Hp.resize at he ⊢; split
 · rename_i hn; rw [hn] at he
   cases he
 · rename_i i hi; obtain ⟨h1, h2, h3⟩ := acI hi; rw [hi] at he; dsimp only at he ⊢; split
   · rename_i hle; obtain ⟨y, a, b, c, d, _⟩ := ais h1 hle; exact ⟨y, a, c, b, d⟩
   · rename_i hlt; rw [if_neg hlt] at he; have hw := hok.widen h1; split
     · rename_i hb; obtain ⟨y, a, b, c, d, _⟩ := ais (H := H.widen i) (s := s) hw.2.1 (by rw [hw.2.2]; exact hb); rw [hw.2.2] at b; exact ⟨y, a, c, b, d⟩
     · rename_i hb; rw [if_neg hb] at he; split
       · have hat : ((H.widen i).size i s).blks[i]? = some { aag (H.widen i).blks i with size := s } := List.getElem?_set_self hw.2.1; rw [hw.2.2] at hat; exact ⟨_, List.mem_of_getElem? hat, h3, rfl, Nat.le_refl _⟩
       · rename_i hg; rw [if_neg hg] at he; split
         · rename_i hn; rw [hn] at he
           cases he
         · rename_i q hq; obtain ⟨y, a, b, c, d, _, ap⟩ := h.what hs hq; refine ⟨y, ?_, c, b, d⟩; refine ali (H := (H.take s).2.moveD (q : Int) o) (by rw [acD]; exact a) c (fun e => ?_); have hap := ap _ (List.mem_of_getElem? (aax h1)) h3; have hsz := (aac _).1 (hok.sz h1); have hss := (aac _).1 hs; omega
end
def Sep (ds : List Dt) : Prop := ds.Pairwise fun a b => ∀ k, a.1.ownBlock = some k -> b.1.ownBlock ≠ some k
def DsS (ds ds' : List Dt) : Prop := (∀ d ∈ ds', d ∈ ds \/ d = aaR) /\ (Sep ds -> Sep ds')
theorem DsS.refl (ds : List Dt) : DsS ds ds := ⟨fun _ h => .inl h, id⟩
theorem DsS.trans {a b c : List Dt} (h : DsS a b) (k : DsS b c) : DsS a c := ⟨fun d hd => (k.1 d hd).elim (h.1 d) .inr, fun hs => k.2 (h.2 hs)⟩
theorem DsS.sub {a b : List Dt} (h : List.Sublist b a) : DsS a b := ⟨fun _ hd => .inl (h.subset hd), fun hs => List.Pairwise.sublist h hs⟩
theorem acN : (aaR.1).ownBlock = none := rfl
theorem DsS.setNil (ds : List Dt) (i : Nat) : DsS ds (ds.set i aaR) := by
 refine ⟨fun d hd => ?_, fun hs => ?_⟩
 · exact List.mem_or_eq_of_mem_set hd
 · unfold Sep at hs ⊢; rw [List.pairwise_iff_getElem] at hs ⊢; intro m n hm hn hmn k; rw [List.length_set] at hm hn; rw [List.getElem_set, List.getElem_set]; by_cases e1 : i = m
   · rw [if_pos e1]; intro hk; rw [acN] at hk; cases hk
   · rw [if_neg e1]; by_cases e2 : i = n
     · rw [if_pos e2]; intro _ hk; rw [acN] at hk; cases hk
     · rw [if_neg e2]; exact hs m n hm hn hmn k
theorem DsS.insNil (ds : List Dt) (i : Nat) : DsS ds (ds.take i ++ aaR :: ds.drop i) := by
 refine ⟨fun d hd => ?_, fun hs => ?_⟩
 · rcases List.mem_append.1 hd with h | h
   · exact .inl (List.mem_of_mem_take h)
   · rcases List.mem_cons.1 h with h | h
     · exact .inr h
     · exact .inl (List.mem_of_mem_drop h)
 · unfold Sep at hs ⊢; rw [<- List.take_append_drop i ds, List.pairwise_append] at hs; obtain ⟨h1, h2, h3⟩ := hs; rw [List.pairwise_append]; refine ⟨h1, List.pairwise_cons.2 ⟨fun b _ k hk => (by rw [acN] at hk; cases hk), h2⟩, fun a ha b hb k hk => ?_⟩; rcases List.mem_cons.1 hb with rfl | hb
   · rw [acN]; exact fun h => by cases h
   · exact h3 a ha b hb k hk
theorem DsS.dropAt (ds : List Dt) (i : Nat) : DsS ds (ds.take i ++ ds.drop (i + 1)) := by
 refine DsS.sub ?_; have h : List.Sublist (ds.drop (i + 1)) (ds.drop i) := by
  rw [<- List.drop_drop]; exact List.drop_sublist 1 _
 have h2 := (List.Sublist.refl (ds.take i)).append h; rw [List.take_append_drop] at h2; exact h2
section
variable {H : Hp} {i s : Nat}
theorem aju : DsS H.ds (H.giveB i).ds := by
 unfold Hp.giveB; split
 · exact DsS.dropAt H.ds (i + 1)
 · exact DsS.refl _
theorem ajv : DsS H.ds (H.giveC i).ds := by
 unfold Hp.giveC; split
 · exact DsS.dropAt H.ds (i - 1 + 1)
 · exact DsS.refl _
theorem alj : DsS H.ds (H.give i).ds := by
 unfold Hp.give; exact ((DsS.setNil H.ds i).trans (aju (H := (H.use i false).wipe i))).trans ajv
theorem alk : DsS H.ds (H.cut i s).ds := by
 unfold Hp.cut; split
 · exact DsS.refl _
 · exact (DsS.insNil H.ds (i + 1)).trans (alj (H := ((H.use i true).size i s).put (i + 1) _))
theorem alm : DsS H.ds (H.take s).2.ds := by
 unfold Hp.take; split
 · exact alk (H := H.out _)
 · split
   · exact DsS.refl _
   · split
     · exact DsS.refl _
     · exact DsS.insNil H.ds H.blks.length
theorem widen_ds : DsS H.ds (H.widen i).ds := by
 unfold Hp.widen Hp.swallow; split
 · exact DsS.dropAt H.ds (i + 1)
 · exact DsS.refl _
theorem aoG (ds : List Dt) (i j : Nat) : DsS ds ((ds.set i (ds.getD j aaR)).set j aaR) := by
 have hgd : ds.getD j aaR ∈ ds \/ ds.getD j aaR = aaR := by
  rw [List.getD_eq_getElem?_getD]
  cases h : ds[j]? with
  | none => exact .inr rfl
  | some y => exact .inl (List.mem_of_getElem? h)
 refine ⟨fun d hd => ?_, fun hs => ?_⟩
 · rcases List.mem_or_eq_of_mem_set hd with h | h
   · rcases List.mem_or_eq_of_mem_set h with h | h
     · exact .inl h
     · rw [h]; exact hgd
   · exact .inr h
 · unfold Sep at hs ⊢; rw [List.pairwise_iff_getElem] at hs ⊢; intro m n hm hn hmn k; rw [List.length_set, List.length_set] at hm hn; have hval : ∀ (q : Nat) (hq : q < ds.length), q ≠ j -> q = i -> ((ds.set i (ds.getD j aaR)).set j aaR)[q]'(by rw [List.length_set, List.length_set]; exact hq) = ds.getD j aaR := fun q hq h1 h2 => by
    rw [List.getElem_set, if_neg (by omega), List.getElem_set, if_pos h2.symm]
   have hold : ∀ (q : Nat) (hq : q < ds.length), q ≠ j -> q ≠ i -> ((ds.set i (ds.getD j aaR)).set j aaR)[q]'(by rw [List.length_set, List.length_set]; exact hq) = ds[q] := fun q hq h1 h2 => by
    rw [List.getElem_set, if_neg (by omega), List.getElem_set, if_neg (by omega)]
   have hnil : ∀ (q : Nat) (hq : q < ds.length), q = j -> ((ds.set i (ds.getD j aaR)).set j aaR)[q]'(by rw [List.length_set, List.length_set]; exact hq) = aaR := fun q hq e => by
    rw [List.getElem_set, if_pos e.symm]
   have hgj : ∀ (hq : j < ds.length), ds.getD j aaR = ds[j] := fun hq => by
    rw [List.getD_eq_getElem?_getD, List.getElem?_eq_getElem hq]; rfl
   have hgo : ¬ j < ds.length -> ds.getD j aaR = aaR := fun hq => by
    rw [List.getD_eq_getElem?_getD, List.getElem?_eq_none (by omega)]; rfl
   by_cases m1 : m = j
   · rw [hnil m hm m1]; intro hk; rw [acN] at hk; cases hk
   · by_cases n1 : n = j
     · rw [hnil n hn n1]; intro _ hk; rw [acN] at hk; cases hk
     · by_cases m2 : m = i
       · rw [hval m hm m1 m2, hold n hn n1 (by omega)]; by_cases hj : j < ds.length
         · rw [hgj hj]; rcases Nat.lt_or_ge j n with h | h
           · exact hs j n hj hn h k
           · intro hk hk2; exact hs n j hn hj (by omega) k hk2 hk
         · rw [hgo hj]; intro hk; rw [acN] at hk; cases hk
       · by_cases n2 : n = i
         · rw [hold m hm m1 m2, hval n hn n1 n2]; by_cases hj : j < ds.length
           · rw [hgj hj]; rcases Nat.lt_or_ge m j with h | h
             · exact hs m j hm hj h k
             · intro hk hk2; exact hs j m hj hm (by omega) k hk2 hk
           · rw [hgo hj]; intro _ hk; rw [acN] at hk; cases hk
         · rw [hold m hm m1 m2, hold n hn n1 n2]; exact hs m n hm hn hmn k
theorem aln {o : Int} (hmv : ∀ q, (H.take s).1 = some q -> ∃ iq io, atB (q : Int) (H.take s).2.blks = some iq /\ atB o (H.take s).2.blks = some io /\ aaK (H.take s).2.blks o = some io) : DsS H.ds (H.resize o s).2.ds := by
 unfold Hp.resize; split
 · exact DsS.refl _
 · split
   · exact alk
   · split
     · exact widen_ds.trans alk
     · split
       · exact widen_ds
       · split
         · exact DsS.refl _
         · rename_i q hq; obtain ⟨iq, io, hiq, hio, hus⟩ := hmv q hq; have hm : (H.take s).2.moveD (q : Int) o = (H.take s).2.copyD iq io := by unfold Hp.moveD; rw [hiq, hio]
           rw [hm]; have hg : ((H.take s).2.copyD iq io).giveO o = some (((H.take s).2.copyD iq io).give io) := by
            unfold Hp.giveO; have : aaK ((H.take s).2.copyD iq io).blks o = some io := hus; rw [this]; rfl
           rw [hg]; show DsS H.ds (((H.take s).2.copyD iq io).give io).ds; unfold Hp.give; exact (alm (H := H) (s := s)).trans (((aoG (H.take s).2.ds iq io).trans (aju (H := (((H.take s).2.copyD iq io).use io false).wipe io))).trans ajv)
end
def akp (d : Dt) : Dt := (.slice none 0 0, d.2)
def Hp.str (H : Hp) : Hp := { H with ds := H.ds.map akp }
section
variable {H : Hp} {i s : Nat}
end
def Hp.handleB (H : Hp) (q : Nat) : Option Nat := if q < 8 \/ 20000 < q then none else aaK H.blks ((q : Int) - 8)
def aeg (H : Hp) : Nat -> Hp
 | 0 => { H with lists := fun _ => [] }
 | j + 1 => if (aag H.blks j).used = true then aeg H j else (aeg H j).in_ j
def Hp.rebuild (H : Hp) : Hp := aeg H H.blks.length
theorem acY (H : Hp) : ∀ j, (aeg H j).blks = H.blks /\ (aeg H j).ds = H.ds /\ (aeg H j).cap = H.cap
 | 0 => ⟨rfl, rfl, rfl⟩
 | j + 1 => by
  unfold aeg; split
  · exact acY H j
  · exact acY H j
theorem agH (H : Hp) : ∀ j, (aeg H j).Few j
 | 0 => fun d _ => Nat.le_refl _
 | j + 1 => by
  unfold aeg; split
  · exact (agH H j).more (Nat.le_succ _)
  · exact (agH H j).in_
def afd (d : List UInt8) (n : Nat) (x : UInt8) : List UInt8 := d.take n ++ List.replicate (n - d.length) x
theorem ahA (d : List UInt8) (n : Nat) (x : UInt8) : (afd d n x).length = n := by
 unfold afd; rw [List.length_append, List.length_take, List.length_replicate]; omega
theorem agI (d : List UInt8) (n : Nat) (x : UInt8) (k : Nat) (hk : k < n) : (afd d n x)[k]? = some (d.getD k x) := by
 unfold afd; rcases Nat.lt_or_ge k d.length with h | h
 · rw [List.getElem?_append_left (by rw [List.length_take]; omega), List.getElem?_take_of_lt hk, List.getD_eq_getElem?_getD, List.getElem?_eq_getElem h]; rfl
 · rw [List.getElem?_append_right (by rw [List.length_take]; omega), List.getElem?_replicate, if_pos (by rw [List.length_take]; omega), List.getD_eq_getElem?_getD, List.getElem?_eq_none h]; rfl
def Hp.dset (H : Hp) (i : Nat) (d : Dt) : Hp := { H with ds := H.ds.set i d }
def Hp.fill (H : Hp) (i : Nat) (x : UInt8) : Hp := H.dset i (.slice none 0 0, afd (H.ds.getD i aaR).2 ((aag H.blks i).size - 16) x)
theorem amV {H : Hp} {i : Nat} {V : Value} {l : List UInt8} : (H.dset i (V, l)).str = H.str.dset i (.slice none 0 0, l) := by
 show ({ H with ds := (H.ds.set i (V, l)).map akp } : Hp) = { H with ds := (H.ds.map akp).set i (.slice none 0 0, l) }; rw [List.map_set]; rfl
theorem agJ {H : Hp} {i : Nat} {x : UInt8} {V : Value} : (H.dset i (V, afd (H.ds.getD i aaR).2 ((aag H.blks i).size - 16) x)).str = H.str.fill i x := by
 rw [amV]; unfold Hp.fill; have e : (H.str.ds.getD i aaR).2 = (H.ds.getD i aaR).2 := by
  show ((H.ds.map akp).getD i aaR).2 = _; rw [List.getD_eq_getElem?_getD, List.getD_eq_getElem?_getD, List.getElem?_map]
  cases H.ds[i]? <;> rfl
 rw [e]; rfl
theorem ajw {H : Hp} {i : Nat} {x : UInt8} : (H.fill i x).str = H.str.fill i x := agJ
theorem ach {n s : Nat} (h : abW n = some s) : aaG (s : Int) = true := by
 unfold abW at h; split at h
 · injection h with h; exact (aac _).2 (by omega)
 · cases h
def Hp.get (H : Hp) (n : Nat) (x : UInt8) : (Nat × Int) × Hp := match abW n with
 | none => ((0, 5), H)
 | some s => match (H.take s).1 with
  | none => ((0, 5), H)
  | some o => ((o + 8, 0), match atB (o : Int) (H.take s).2.blks with
   | none => (H.take s).2
   | some i => ((H.take s).2.wipe i).fill i x)
def Hp.calloc (H : Hp) (n m : Nat) : (Nat × Int) × Hp := if 18446744073709551615 < n * m then ((0, 5), H) else H.get (n * m) 0
def Hp.realloc (H : Hp) (q n : Nat) : (Nat × Int) × Hp := match H.handleB q with
 | none => ((0, 4), H)
 | some _ => match abW n with
  | none => ((0, 5), H)
  | some s => if (H.resize ((q : Int) - 8) s).1.2 = 0 then (((H.resize ((q : Int) - 8) s).1.1 + 8, 0), match atB ((H.resize ((q : Int) - 8) s).1.1 : Int) (H.resize ((q : Int) - 8) s).2.blks with
   | none => (H.resize ((q : Int) - 8) s).2
   | some i => (H.resize ((q : Int) - 8) s).2.fill i 165)
   else ((0, (H.resize ((q : Int) - 8) s).1.2), (H.resize ((q : Int) - 8) s).2)
theorem abO {H : Hp} {q i : Nat} (h : H.handleB q = some i) : 8 <= q /\ q <= 20000 /\ aaK H.blks ((q : Int) - 8) = some i := by
 unfold Hp.handleB at h; split at h
 · cases h
 · exact ⟨by omega, by omega, h⟩
theorem adY (H : Hp) (o : Int) (s : Nat) (h : (H.resize o s).1.2 ≠ 0) : (H.resize o s).1.1 = 0 /\ (H.resize o s).2 = H /\ ((H.resize o s).1.2 = 3 \/ (H.resize o s).1.2 = 5) := by
 unfold Hp.resize at h ⊢; split
 · exact ⟨rfl, rfl, .inl rfl⟩
 · rename_i i hi; rw [hi] at h; dsimp only at h ⊢; split
   · rename_i h1; rw [if_pos h1] at h; exact absurd rfl h
   · rename_i h1; rw [if_neg h1] at h; split
     · rename_i h2; rw [if_pos h2] at h; exact absurd rfl h
     · rename_i h2; rw [if_neg h2] at h; split
       · rename_i h3; rw [if_pos h3] at h; exact absurd rfl h
       · rename_i h3; rw [if_neg h3] at h; split
         · exact ⟨rfl, rfl, .inr rfl⟩
         · rename_i p hp; rw [hp] at h; exact absurd rfl h
theorem apF {α : Type} (l : List α) (i j : Nat) : (l.take i ++ l.drop (i + 1))[j]? = if j < i then l[j]? else l[j + 1]? := by
 rcases Nat.lt_or_ge j i with h | h
 · rw [if_pos h]; rcases Nat.lt_or_ge j l.length with h2 | h2
   · rw [List.getElem?_append_left (by rw [List.length_take]; omega), List.getElem?_take_of_lt h]
   · rw [List.getElem?_append_right (by rw [List.length_take]; omega), List.getElem?_drop, List.getElem?_eq_none (by omega), List.getElem?_eq_none (by omega)]
 · rw [if_neg (by omega)]; rw [List.getElem?_append_right (by rw [List.length_take]; omega), List.length_take, List.getElem?_drop]; rcases Nat.lt_or_ge l.length i with h2 | h2
   · rw [List.getElem?_eq_none (by omega), List.getElem?_eq_none (by omega)]
   · congr 1; omega
theorem anX {α : Type} (l : List α) (i j : Nat) (y : α) (hi : i <= l.length) : (l.take i ++ y :: l.drop i)[j]? = if j < i then l[j]? else if j = i then some y else l[j - 1]? := by
 rcases Nat.lt_or_ge j i with h | h
 · rw [if_pos h, List.getElem?_append_left (by rw [List.length_take]; omega), List.getElem?_take_of_lt h]
 · rw [if_neg (by omega), List.getElem?_append_right (by rw [List.length_take]; omega), List.length_take]; by_cases e : j = i
   · rw [if_pos e, show j - min i l.length = 0 by omega]; rfl
   · rw [if_neg e, show j - min i l.length = (j - 1 - i) + 1 by omega, List.getElem?_cons_succ, List.getElem?_drop]; congr 1; omega
def Hp.At (H : Hp) (j : Nat) (x : Bk) (d : Dt) : Prop := H.blks[j]? = some x /\ H.ds[j]? = some d
section
variable {H : Hp} {i j k s : Nat} {x : Bk} {d : Dt}
theorem alo (h : (H.drop k).At j x d) : ∃ j', j' ≠ k /\ H.At j' x d /\ (j < k -> j' = j) /\ (k <= j -> j' = j + 1) := by
 obtain ⟨h1, h2⟩ := h; have h1 : (H.blks.take k ++ H.blks.drop (k + 1))[j]? = some x := h1; have h2 : (H.ds.take k ++ H.ds.drop (k + 1))[j]? = some d := h2; rw [apF] at h1 h2; split at h1
 · rename_i hj; rw [if_pos hj] at h2; exact ⟨j, by omega, ⟨h1, h2⟩, fun _ => rfl, fun h => by omega⟩
 · rename_i hj; rw [if_neg hj] at h2; exact ⟨j + 1, by omega, ⟨h1, h2⟩, fun h => by omega, fun _ => rfl⟩
theorem anY {y : Bk} {l : List Bk} (h1 : (l.set i y)[j]? = some x) : (j = i /\ x = y /\ i < l.length) \/ (j ≠ i /\ l[j]? = some x) := by
 rw [List.getElem?_set] at h1; split at h1
 · rename_i e; split at h1
   · rename_i hi; injection h1 with h1; exact .inl ⟨e.symm, h1.symm, hi⟩
   · cases h1
 · rename_i e; exact .inr ⟨fun e' => e e'.symm, h1⟩
theorem afe (h : (H.size i s).At j x d) : ∃ x0, H.At j x0 d /\ x0.off = x.off /\ x0.used = x.used /\ (j ≠ i -> x0 = x) := by
 obtain ⟨h1, h2⟩ := h; rcases anY h1 with ⟨rfl, rfl, hi⟩ | ⟨hj, h1⟩
 · exact ⟨aag H.blks j, ⟨aax hi, h2⟩, rfl, rfl, fun e => absurd rfl e⟩
 · exact ⟨x, ⟨h1, h2⟩, rfl, rfl, fun _ => rfl⟩
theorem ajx {u : Bool} (h : (H.use i u).At j x d) : (j = i /\ x = { aag H.blks i with used := u } /\ i < H.blks.length /\ H.ds[i]? = some d) \/ (j ≠ i /\ H.At j x d) := by
 obtain ⟨h1, h2⟩ := h; rcases anY h1 with ⟨rfl, h3, h4⟩ | ⟨hj, h1⟩
 · exact .inl ⟨rfl, h3, h4, h2⟩
 · exact .inr ⟨hj, h1, h2⟩
theorem alp (h : (H.wipe i).At j x d) (hj : j ≠ i) : H.At j x d := by
 obtain ⟨h1, h2⟩ := h; have h2 : (H.ds.set i aaR)[j]? = some d := h2; rw [List.getElem?_set_ne (fun e => hj e.symm)] at h2; exact ⟨h1, h2⟩
theorem alq (h : (H.join i).At j x d) : (∃ x0, H.At i x0 d /\ x0.off = x.off /\ x0.used = x.used) \/ ∃ j', j' ≠ i /\ j' ≠ i + 1 /\ H.At j' x d := by
 unfold Hp.join at h; obtain ⟨j', hj, h, _⟩ := alo h; obtain ⟨x0, h1, h2, h3, h4⟩ := afe h; by_cases e : j' = i
 · subst e; exact .inl ⟨x0, h1, h2, h3⟩
 · rw [h4 e] at h1; exact .inr ⟨j', e, hj, h1⟩
theorem ait (h : H.blks[j]? = some x) (hu : (aag H.blks j).used = false) : x.used = false := by rw [<- abo h]; exact hu
theorem aiu (hi : i < H.blks.length) (h : (H.give i).At j x d) (hu : x.used = true) : ∃ j', j' ≠ i /\ H.At j' x d := by
 unfold Hp.give at h; have f0 : aag ((H.use i false).wipe i).blks i = { aag H.blks i with used := false } := by
  show aag (H.blks.set i _) i = _; rw [aa3 _ _ _ _ hi, if_pos rfl]
 have fin : ∀ j', ((H.use i false).wipe i).At j' x d -> ∃ j', j' ≠ i /\ H.At j' x d := fun j' hh => by
  by_cases e : j' = i
  · subst e; have := ait hh.1 (by rw [f0]); rw [hu] at this; cases this
  · have hw := alp hh e; rcases ajx hw with ⟨e', _⟩ | ⟨_, hw⟩
    · exact absurd e' e
    · exact ⟨j', e, hw⟩
 obtain ⟨H1, hH1⟩ := nmE ((H.use i false).wipe i); have hi1 : i < H1.blks.length := by rw [<- hH1]; show i < (H.blks.set i _).length; rw [List.length_set]; exact hi
 rw [hH1] at h f0 fin; have f1 : (aag H1.blks i).used = false := by rw [f0]
 have mid : ∀ j', (H1.giveB i).At j' x d -> ∃ j', j' ≠ i /\ H.At j' x d := fun j' hh => by
  unfold Hp.giveB at hh; split at hh
  · rcases alq (H := H1.out (i + 1)) hh with ⟨x0, h1, h2, h3⟩ | ⟨j2, _, _, h1⟩
    · have : x0.used = false := ait (H := H1) h1.1 f1; rw [h3, hu] at this; cases this
    · exact fin j2 ⟨h1.1, h1.2⟩
  · exact fin j' hh
 obtain ⟨H2, hH2⟩ := nmE (H1.giveB i); rw [hH2] at h mid; unfold Hp.giveC at h; split at h
 · rename_i hp; have hp := (ahy hp).2; rcases alq (H := H2.out (i - 1)) (i := i - 1) ⟨h.1, h.2⟩ with ⟨x0, h1, h2, h3⟩ | ⟨j2, _, _, h1⟩
   · have : x0.used = false := ait (H := H2) h1.1 hp; rw [h3, hu] at this; cases this
   · exact mid j2 ⟨h1.1, h1.2⟩
 · exact mid j ⟨h.1, h.2⟩
theorem alr (hd : H.Dl) (hi : i < H.blks.length) (h : (H.cut i s).At j x d) (hu : x.used = true) : (∃ x0, H.At i x0 d /\ x0.off = x.off) \/ ∃ j', j' ≠ i /\ H.At j' x d := by
 unfold Hp.cut at h; split at h
 · rcases ajx h with ⟨rfl, rfl, h3, h4⟩ | ⟨hj, h⟩
   · exact .inl ⟨aag H.blks j, ⟨aax h3, h4⟩, rfl⟩
   · exact .inr ⟨j, hj, h⟩
 · have hlen : ((H.use i true).size i s).blks.length = H.blks.length := by
    show ((H.blks.set i _).set i _).length = _; rw [List.length_set, List.length_set]
   have hlp : i + 1 < (((H.use i true).size i s).put (i + 1) ⟨(aag H.blks i).off + s, (aag H.blks i).size - s, true⟩).blks.length := by
    show i + 1 < (((H.use i true).size i s).blks.take (i + 1) ++ _ :: ((H.use i true).size i s).blks.drop (i + 1)).length; simp only [List.length_append, List.length_take, List.length_cons, List.length_drop]; omega
   obtain ⟨j1, hj1, h1⟩ := aiu hlp h hu; obtain ⟨a, b⟩ := h1; have a : (((H.use i true).size i s).blks.take (i + 1) ++ _ :: ((H.use i true).size i s).blks.drop (i + 1))[j1]? = some x := a; have b : (H.ds.take (i + 1) ++ aaR :: H.ds.drop (i + 1))[j1]? = some d := b; have hd : H.ds.length = H.blks.length := hd; rw [anX _ _ _ _ (by omega)] at a b; have key : ∀ j2, ((H.use i true).size i s).blks[j2]? = some x -> H.ds[j2]? = some d -> (∃ x0, H.At i x0 d /\ x0.off = x.off) \/ ∃ j', j' ≠ i /\ H.At j' x d := fun j2 a b => by
    obtain ⟨x0, c1, c2, c3, c4⟩ := afe (H := H.use i true) (i := i) (s := s) (j := j2) ⟨a, b⟩; rcases ajx c1 with ⟨rfl, rfl, h3, h4⟩ | ⟨hj, c1⟩
    · exact .inl ⟨aag H.blks j2, ⟨aax h3, h4⟩, c2⟩
    · rw [c4 hj] at c1; exact .inr ⟨j2, hj, c1⟩
   by_cases e : j1 < i + 1
   · rw [if_pos e] at a b; exact key j1 a b
   · rw [if_neg e, if_neg hj1] at a b; exact key _ a b
theorem aiv (hd : H.Dl) (hfr : ∀ i, H.find s = some i -> i < H.blks.length /\ (aag H.blks i).used = false) (h : (H.take s).2.At j x d) (hu : x.used = true) : (H.take s).1 = some x.off \/ ∃ j', H.At j' x d := by
 unfold Hp.take at h ⊢; split at h
 · rename_i i hf; rcases alr (H := H.out i) hd (hfr i hf).1 h hu with ⟨x0, h1, h2⟩ | ⟨j', _, h1⟩
   · left; rw [<- h2, abo (show H.blks[i]? = some x0 from h1.1)]
   · exact .inr ⟨j', h1.1, h1.2⟩
 · rename_i hf; split at h
   · exact .inr ⟨j, h⟩
   · rename_i hcp; rw [if_neg hcp]; split at h
     · rename_i htl; rw [if_pos htl]; rcases ajx h with ⟨rfl, rfl, h3, h4⟩ | ⟨hj, h⟩
       · left; have h3 : H.blks.length - 1 < H.blks.length := by
          have h3 : H.blks.length - 1 < (H.blks.set _ _).length := h3; rw [List.length_set] at h3; exact h3
         show some (aag H.blks (H.blks.length - 1)).off = some (aag (H.blks.set (H.blks.length - 1) { aag H.blks (H.blks.length - 1) with size := s }) (H.blks.length - 1)).off; rw [aa3 _ _ _ _ h3, if_pos rfl]
       · obtain ⟨x0, c1, c2, c3, c4⟩ := afe (H := H.out (H.blks.length - 1)) h; rw [c4 hj] at c1; exact .inr ⟨j, c1.1, c1.2⟩
     · rename_i htl; rw [if_neg htl]; obtain ⟨a, b⟩ := h; have a : (H.blks.take H.blks.length ++ _ :: H.blks.drop H.blks.length)[j]? = some x := a; have b : (H.ds.take H.blks.length ++ aaR :: H.ds.drop H.blks.length)[j]? = some d := b; have hd : H.ds.length = H.blks.length := hd; rw [anX _ _ _ _ (by omega)] at a b; by_cases e : j < H.blks.length
       · rw [if_pos e] at a b; exact .inr ⟨j, a, b⟩
       · rw [if_neg e] at a b; by_cases e2 : j = H.blks.length
         · rw [if_pos e2] at a; injection a with a; left; rw [<- a]
         · rw [if_neg e2] at a b; exact .inr ⟨_, a, b⟩
end
def agK (H : Hp) (bs : List UInt8) (o : Int) (H' : Hp) (out : List UInt8) (p : Nat) : Prop :=
 ∀ x ∈ H.blks, x.used = true -> (x.off : Int) = o -> ∀ y ∈ H'.blks, y.used = true -> y.off = p -> ∀ i, 8 <= i -> i + 8 < x.size -> i + 8 < y.size -> out[p + i]? = bs[x.off + i]?
def Hp.One (H : Hp) : Prop := ∀ (a b : Nat) (x y : Bk), H.blks[a]? = some x -> H.blks[b]? = some y -> x.off = y.off -> a = b
theorem Rt.one {bs : List UInt8} {H : Hp} (h : Rt bs H) : H.One := fun a b x y ha hb e => by
 have hpw := List.pairwise_iff_getElem.1 (aeq _ _ _ (aaq h.walk).2.1); have e1 : H.blks[a]'(aa5 ha) = x := by have := List.getElem?_eq_getElem (aa5 ha); rw [ha] at this; exact (Option.some.inj this).symm
 have e2 : H.blks[b]'(aa5 hb) = y := by have := List.getElem?_eq_getElem (aa5 hb); rw [hb] at this; exact (Option.some.inj this).symm
 rcases Nat.lt_trichotomy a b with h' | h' | h'
 · exact absurd (by rw [e1, e2]; exact e) (hpw a b (aa5 ha) (aa5 hb) h')
 · exact h'
 · exact absurd (by rw [e1, e2]; exact e.symm) (hpw b a (aa5 hb) (aa5 ha) h')
section
variable {H : Hp} {i j k s : Nat} {x : Bk} {d : Dt}
theorem agL (h : (H.widen i).At j x d) : ∃ j' x0, H.At j' x0 d /\ x0.off = x.off /\ x0.used = x.used /\ (j = i -> j' = i) /\ (j ≠ i -> j' ≠ i /\ x0 = x) := by
 unfold Hp.widen at h; obtain ⟨x0, h1, h2, h3, h4⟩ := afe h; unfold Hp.swallow at h1; split at h1
 · obtain ⟨j', c1, h1, c2, c3⟩ := alo h1; exact ⟨j', x0, ⟨h1.1, h1.2⟩, h2, h3, fun e => by rw [c2 (by omega), e], fun e => ⟨by
    rcases Nat.lt_or_ge j (i + 1) with hh | hh
    · rw [c2 hh]; exact e
    · rw [c3 hh]; omega, h4 e⟩⟩
 · exact ⟨j, x0, h1, h2, h3, id, fun e => ⟨e, h4 e⟩⟩
theorem amW {p o : Int} (h : (H.moveD p o).At j x d) : (H.At j x d /\ ∀ ip io, atB p H.blks = some ip -> atB o H.blks = some io -> j ≠ ip) \/ ((x.off : Int) = p /\ ∃ io xo, atB o H.blks = some io /\ H.blks[io]? = some xo /\ d = H.ds.getD io aaR) := by
 unfold Hp.moveD at h; split at h
 · rename_i ip io h1 h2; obtain ⟨a, b⟩ := h; have b : (H.ds.set ip (H.ds.getD io aaR))[j]? = some d := b; have a' : H.blks[j]? = some x := a; by_cases e : j = ip
   · subst e; have hl : j < H.ds.length := by
      have := aa5 b; rwa [List.length_set] at this
     rw [List.getElem?_set_self hl] at b; injection b with b; obtain ⟨x1, e1, e2⟩ := ab6 h1; obtain ⟨x2, e3, _⟩ := ab6 h2; obtain rfl : x = x1 := Option.some.inj (a'.symm.trans e1); exact .inr ⟨e2, io, x2, h2, e3, b.symm⟩
   · rw [List.getElem?_set_ne (fun e' => e e'.symm)] at b; exact .inl ⟨⟨a', b⟩, fun ip' io' h3 _ => by rw [h1] at h3; injection h3 with h3; rw [<- h3]; exact e⟩
 · rename_i hn; exact .inl ⟨h, fun ip io h1 h2 => absurd h2 (hn ip io h1)⟩
theorem amX {o : Int} (h : ((H.giveO o).getD H).At j x d) (hu : x.used = true) : ∃ j', H.At j' x d /\ ∀ i, aaK H.blks o = some i -> j' ≠ i := by
 unfold Hp.giveO at h
 cases hi : aaK H.blks o with
 | none => rw [hi] at h; exact ⟨j, h, fun i hh => by cases hh⟩
 | some i =>
  rw [hi] at h; obtain ⟨j', e, h'⟩ := aiu (acI hi).1 h hu; exact ⟨j', h', fun i' hh => by injection hh with hh; rw [<- hh]; exact e⟩
theorem ahB (hd : H.Dl) {o : Int} (h0 : H.One) (he : (H.resize o s).1.2 = 0) (hfr : ∀ i, H.find s = some i -> i < H.blks.length /\ (aag H.blks i).used = false) (hone : (H.take s).2.One)
 (hmv : ∀ i q, aaK H.blks o = some i -> (H.take s).1 = some q -> (∃ iq, atB (q : Int) (H.take s).2.blks = some iq) /\ ∃ io x0, atB o (H.take s).2.blks = some io /\ aaK (H.take s).2.blks o = some io /\ (H.take s).2.blks[io]? = some x0 /\ x0.used = true /\ x0.off ≠ q)
 (h : (H.resize o s).2.At j x d) (hu : x.used = true) : ∃ j' x0, H.At j' x0 d /\ x0.used = true /\ ((x0 = x /\ (x0.off : Int) ≠ o) \/ ((x0.off : Int) = o /\ x.off = (H.resize o s).1.1)) := by
 unfold Hp.resize at h he ⊢; split at h
 · rename_i hn; rw [hn] at he
   cases he
 · rename_i i hi; rw [hi] at he; obtain ⟨h1, h2, h3⟩ := acI hi; have hoth : ∀ j' x0, H.blks[j']? = some x0 -> j' ≠ i -> (x0.off : Int) ≠ o := fun j' x0 a e e' => e (h0 j' i x0 _ a (aax h1) (by omega)); have hat : ∀ x0, H.blks[i]? = some x0 -> (x0.off : Int) = o /\ x0.used = true /\ x0.off = (aag H.blks i).off := fun x0 a => by rw [<- abo a]; exact ⟨h2, h3, rfl⟩
   split at h
   · rename_i hle; rw [if_pos hle]; rcases alr hd h1 h hu with ⟨x0, a, b⟩ | ⟨j', e, a⟩
     · obtain ⟨c1, c2, c3⟩ := hat x0 a.1; exact ⟨i, x0, a, c2, .inr ⟨c1, by rw [<- b, c3]⟩⟩
     · exact ⟨j', x, a, hu, .inl ⟨rfl, hoth j' x a.1 e⟩⟩
   · rename_i hlt; dsimp only at he; rw [if_neg hlt] at he; split at h
     · rename_i hle; rw [if_neg hlt, if_pos hle]; have hw : (H.widen i).Dl := hd.widen; have hwi : i < (H.widen i).blks.length := by
        cases hn : aaH H.blks i with
        | true => rw [(aew hn).1]; exact (acR (H.out (i + 1)) (i := i) (aev hn)).1
        | false => rw [(aex hn h1).1]; exact h1
       rcases alr hw hwi h hu with ⟨x0, a, b⟩ | ⟨j', e, a⟩
       · obtain ⟨j2, x2, c1, c2, c3, c4, _⟩ := agL a; obtain rfl := c4 rfl; obtain ⟨d1, d2, d3⟩ := hat x2 c1.1; exact ⟨j2, x2, c1, d2, .inr ⟨d1, by rw [<- b, <- c2, d3]⟩⟩
       · obtain ⟨j2, x2, c1, c2, c3, _, c5⟩ := agL a; obtain ⟨e2, rfl⟩ := c5 e; exact ⟨j2, x2, c1, hu, .inl ⟨rfl, hoth j2 x2 c1.1 e2⟩⟩
     · rename_i hlt2; rw [if_neg hlt2] at he; split at h
       · rename_i hg; rw [if_neg hlt, if_neg hlt2, if_pos hg]; obtain ⟨x0, a, b, c, c'⟩ := afe h; obtain ⟨j2, x2, c1, c2, c3, c4, c5⟩ := agL a; by_cases e : j = i
         · obtain rfl := c4 e; obtain ⟨d1, d2, d3⟩ := hat x2 c1.1; exact ⟨j2, x2, c1, d2, .inr ⟨d1, by rw [<- b, <- c2, d3]⟩⟩
         · obtain ⟨e2, rfl⟩ := c5 e; obtain rfl := c' e; exact ⟨j2, x2, c1, hu, .inl ⟨rfl, hoth j2 x2 c1.1 e2⟩⟩
       · rename_i hg; rw [if_neg hg] at he; rw [if_neg hlt, if_neg hlt2, if_neg hg]
         cases hq : (H.take s).1 with
         | none =>
          rw [hq] at he
          cases he
         | some q =>
          rw [hq] at h; obtain ⟨⟨iq, hiq⟩, io', x0, c1, cu, c2, c3, c4⟩ := hmv i q hi hq; obtain ⟨j1, a, hj1⟩ := amX h hu; rw [acD] at hj1; have hj1 := hj1 io' cu; obtain ⟨xq, e1, e2⟩ := ab6 c1; rw [c2] at e1; injection e1 with e1; subst e1; rcases amW a with ⟨a, hne⟩ | ⟨a, io, xo, b1, b2, b3⟩
          · rcases aiv hd hfr a hu with e | ⟨j2, b⟩
            · rw [hq] at e; injection e with e; obtain ⟨y, f1, f2⟩ := ab6 hiq; exact absurd (hone j1 iq x y a.1 f1 (by omega)) (hne iq io' hiq c1)
            · exact ⟨j2, x, b, hu, .inl ⟨rfl, fun e => hj1 (hone j1 io' x x0 a.1 c2 (by omega))⟩⟩
          · rw [b1] at c1; injection c1 with c1; subst c1; rw [b2] at c2; injection c2 with c2; subst c2; have hat : (H.take s).2.At io xo d := ⟨b2, by
             have hdl : (H.take s).2.ds.length = (H.take s).2.blks.length := hd.take; have : io < (H.take s).2.ds.length := by rw [hdl]; exact aa5 b2
             rw [b3, List.getD_eq_getElem?_getD, List.getElem?_eq_getElem this]; rfl⟩
            rcases aiv hd hfr hat c3 with e | ⟨j2, b⟩
            · rw [hq] at e; injection e with e; exact absurd e.symm c4
            · exact ⟨j2, xo, b, c3, .inr ⟨e2, by show x.off = q; omega⟩⟩
end
def aqp (bs : List UInt8) (H : Hp) : Prop := ∀ j x d, H.At j x d -> x.used = true -> d.2.length + 16 = x.size /\ ∀ k, k < d.2.length -> bs[x.off + 8 + k]? = d.2[k]?
structure RtD (bs : List UInt8) (H : Hp) : Prop where
 rt : Rt bs H
 dl : H.Dl
 ho : aqp bs H
section
variable {bs out : List UInt8} {H H' : Hp} {s : Nat}
theorem Rt.sz (h : Rt bs H) {x : Bk} (hx : x ∈ H.blks) : 184 <= x.off /\ 32 <= x.size /\ x.size <= 16384 /\ x.off + x.size <= bs.length := by
 have := (aai _ _ _ (aaq h.walk).2.1).2 x hx; have sz := (aac _).1 this.2.2.1; omega
theorem Rt.apart (h : Rt bs H) {x y : Bk} (hx : x ∈ H.blks) (hy : y ∈ H.blks) (hne : x.off ≠ y.off) : x.off + x.size <= y.off \/ y.off + y.size <= x.off := by
 rcases aa9 _ _ _ (aaq h.walk).2.1 x hx y hy with e | e | e
 · exact absurd (by rw [e]) hne
 · exact .inl e
 · exact .inr e
theorem RtD.keep (h : RtD bs H) (hh : Held H bs H' out) {x : Bk} {d : Dt} {j : Nat} (ha : H.At j x d) (hu : x.used = true) (hx : x ∈ H'.blks) : d.2.length + 16 = x.size /\ ∀ k, k < d.2.length -> out[x.off + 8 + k]? = d.2[k]? := by
 obtain ⟨h1, h2⟩ := h.ho j x d ha hu; have hm := List.mem_of_getElem? ha.1; refine ⟨h1, fun k hk => ?_⟩; rw [hh x hm hu x hx hu rfl (x.off + 8 + k) (by omega) (by omega) (by omega)]; exact h2 k hk
theorem RtD.freed (h : RtD bs H) {i : Nat} (hi : i < H.blks.length) (h' : Rt out (H.give i)) (hh : Held H bs (H.give i) out) : RtD out (H.give i) :=
 ⟨h', h.dl.give, fun j x d ha hu => by
  obtain ⟨j', _, hb⟩ := aiu hi ha hu; exact h.keep hh hb hu (List.mem_of_getElem? ha.1)⟩
theorem aiw (b : List UInt8) (d : Nat) (cs : List UInt8) (hd : d + cs.length <= b.length) (q : Nat) (hq : q < d \/ d + cs.length <= q) : (lay b d cs)[q]? = b[q]? := by
 unfold lay; rcases hq with h | h
 · rw [List.getElem?_append_left (by rw [List.length_take]; omega), List.getElem?_take_of_lt h]
 · rw [List.getElem?_append_right (by rw [List.length_take]; omega), List.length_take, List.getElem?_append_right (by omega), List.getElem?_drop]; congr 1; omega
theorem RtD.fills (h' : Rt out H') (hd : H'.Dl) {i : Nat} {y : Bk} (hy : H'.blks[i]? = some y) (hyu : y.used = true) (V : Value) {L : List UInt8} (hL : L.length + 16 = y.size) {b2 : List UInt8} (hag : afS out b2 y) (hb2 : ∀ k, k < L.length -> b2[y.off + 8 + k]? = L[k]?)
 (hoth : ∀ j x d, H'.At j x d -> x.used = true -> j ≠ i -> d.2.length + 16 = x.size /\ ∀ k, k < d.2.length -> out[x.off + 8 + k]? = d.2[k]?) : RtD b2 (H'.dset i (V, L)) := by
 have hym := List.mem_of_getElem? hy; have hf := h'.fill hym hyu hag; refine ⟨⟨hf.walk, hf.all_, hf.chk, hf.len⟩, by show (H'.ds.set i _).length = _; rw [List.length_set]; exact hd, fun j x d ha hu => ?_⟩; obtain ⟨a, b⟩ := ha; have a' : H'.blks[j]? = some x := a; have b : (H'.ds.set i (V, L))[j]? = some d := b; by_cases e : j = i
 · subst e; obtain rfl : y = x := Option.some.inj (hy.symm.trans a'); have hl : j < H'.ds.length := by have := aa5 b; rwa [List.length_set] at this
   rw [List.getElem?_set_self hl] at b; injection b with b; subst b; exact ⟨hL, hb2⟩
 · rw [List.getElem?_set_ne (fun e' => e e'.symm)] at b; obtain ⟨c1, c2⟩ := hoth j x d ⟨a', b⟩ hu e; refine ⟨c1, fun k hk => ?_⟩; rw [<- c2 k hk]; have hxm := List.mem_of_getElem? a'; have hap := h'.apart hxm hym (fun e' => e (h'.one _ _ _ _ a' hy e')); exact hag.2 _ (by omega)
theorem aj1 (b : List UInt8) (x : Bk) : afS b b x := ⟨rfl, fun _ _ => rfl⟩
theorem als (H : Hp) (i : Nat) : ((H.wipe i).ds.getD i aaR).2 = [] := by
 show ((H.ds.set i aaR).getD i aaR).2 = []; rw [List.getD_eq_getElem?_getD, List.getElem?_set]; split
 · split <;> rfl
 · rename_i e; exact absurd rfl e
theorem RtD.got (h : RtD bs H) {o : Nat} (hs : aaG (s : Int) = true) (hq : (H.take s).1 = some o) (h1 : Rt out (H.take s).2) (hh : Held H bs (H.take s).2 out) (v : UInt8) :
 ∃ i y, atB (o : Int) (H.take s).2.blks = some i /\ (H.take s).2.blks[i]? = some y /\ y.off = o /\ y.used = true /\ s <= y.size /\ y.off + y.size <= out.length /\ RtD (lay out (o + 8) (List.replicate (y.size - 16) v)) (((H.take s).2.wipe i).fill i v) := by
 obtain ⟨y, y1, y2, y3, y4, y5, y6⟩ := h.rt.what hs hq; obtain ⟨i, hi⟩ := ado y1; rw [y2] at hi; obtain ⟨y', e1, e2⟩ := ab6 hi; obtain ⟨k, hk⟩ := List.mem_iff_getElem?.1 y1; obtain rfl : i = k := h1.one _ _ _ _ e1 hk (by omega); have hsz := h1.sz y1; refine ⟨i, y, hi, hk, y2, y3, y4, hsz.2.2.2, ?_⟩; unfold Hp.fill; rw [als]; have eb : aag ((H.take s).2.wipe i).blks i = y := abo (show (H.take s).2.blks[i]? = some y from hk); rw [eb]; have eL : afd [] (y.size - 16) v = List.replicate (y.size - 16) v := by unfold afd; simp
 rw [eL]; have hll : (List.replicate (y.size - 16) v).length = y.size - 16 := List.length_replicate; refine RtD.fills (H' := (H.take s).2.wipe i) (y := y) ⟨h1.walk, h1.all_, h1.chk, h1.len⟩ ?_ hk y3 _ (by omega) (aef (x := y) _ _ (by omega) (by omega) (by omega)) (fun k hk2 => ?_) (fun j x d ha hu hne => ?_)
 · show ((H.take s).2.ds.set i aaR).length = _; rw [List.length_set]; exact h.dl.take
 · rw [show y.off + 8 + k = o + 8 + k by omega]; exact ahz out (o + 8) _ (by omega) k hk2
 · have ha := alp ha hne; rcases aiv h.dl (fun j hj => by obtain ⟨a, _, c⟩ := h.rt.found hs hj; exact ⟨a, c⟩) ha hu with e | ⟨j', hb⟩
   · rw [hq] at e; injection e with e; exact absurd (h1.one _ _ _ _ ha.1 hk (by omega)) hne
   · exact h.keep hh hb hu (List.mem_of_getElem? ha.1)
theorem aeD {o : Int} (he : (H.resize o s).1.2 = 0) : ((H.resize o s).1.1 : Int) = o \/ (H.take s).1 = some (H.resize o s).1.1 := by
 unfold Hp.resize at he ⊢; split
 · rename_i hn; rw [hn] at he; cases he
 · rename_i i hi; obtain ⟨h1, h2, h3⟩ := acI hi; rw [hi] at he; dsimp only at he; split
   · exact .inl h2
   · rename_i a; rw [if_neg a] at he; split
     · exact .inl h2
     · rename_i b; rw [if_neg b] at he; split
       · exact .inl h2
       · rename_i c; rw [if_neg c] at he; split
         · rename_i d; rw [d] at he; cases he
         · rename_i d; exact .inr d
theorem Rt.movesU (h : Rt bs H) (hs : aaG (s : Int) = true) {o : Int} (hT : (H.take s).2.One) : ∀ i q, aaK H.blks o = some i -> (H.take s).1 = some q -> (∃ iq, atB (q : Int) (H.take s).2.blks = some iq) /\ ∃ io x0, atB o (H.take s).2.blks = some io /\ aaK (H.take s).2.blks o = some io /\ (H.take s).2.blks[io]? = some x0 /\ x0.used = true /\ x0.off ≠ q := fun i q hu hq => by
 obtain ⟨iq, io, h1, h2⟩ := h.moves hs i q hu hq; obtain ⟨i1, i2, i3⟩ := acI hu; have ht : abU 184 H.blks (Go.Proofs.YtnicenfdlfffpaaGreatDoor.lenB H.blks) := by rw [h.lenE]; exact (aaq h.walk).2.1
 have hm : aag H.blks i ∈ H.blks := List.mem_of_getElem? (aax i1); have hm2 := agG (s := s) ht hs (fun j hj => by obtain ⟨a, _, c⟩ := h.found hs hj; exact ⟨a, c⟩) hm i3; obtain ⟨x, e1, e2⟩ := ab6 h2; obtain ⟨k, hk⟩ := List.mem_iff_getElem?.1 hm2; obtain rfl : io = k := hT _ _ _ _ e1 hk (by omega); obtain rfl : x = aag H.blks i := Option.some.inj (e1.symm.trans hk); obtain ⟨y, y1, y2, y3, y4, y5, y6⟩ := h.what hs hq; have sx := (aac _).1 ((aai _ _ _ ht).2 _ hm).2.2.1; have ss := (aac _).1 hs; refine ⟨⟨iq, h1⟩, io, aag H.blks i, h2, ?_, e1, i3, fun e => ?_⟩
 · unfold aaK; rw [h2]; dsimp only; rw [abo e1, if_pos i3]
 · have := y6 _ hm i3; omega
theorem RtD.resized (h : RtD bs H) (hok : H.Ok) (hT : (H.take s).2.One) (hs : aaG (s : Int) = true) {o : Int} (he : (H.resize o s).1.2 = 0) (h1 : Rt out (H.resize o s).2) (hh : Held H bs (H.resize o s).2 out) (hm : agK H bs o (H.resize o s).2 out (H.resize o s).1.1) (v : UInt8) :
 ∃ i y j x0 d, atB ((H.resize o s).1.1 : Int) (H.resize o s).2.blks = some i /\ (H.resize o s).2.blks[i]? = some y /\ y.off = (H.resize o s).1.1 /\ y.used = true /\ s <= y.size /\ y.off + y.size <= out.length /\ H.At j x0 d /\ x0.used = true /\ (x0.off : Int) = o /\ d.2.length + 16 = x0.size /\
  (∀ k, k < d.2.length -> k + 16 < y.size -> out[y.off + 8 + k]? = d.2[k]?) /\ ∀ b2, afS out b2 y -> (∀ k, k < y.size - 16 -> b2[y.off + 8 + k]? = (afd d.2 (y.size - 16) v)[k]?) -> RtD b2 ((H.resize o s).2.fill i v) := by
 obtain ⟨y, y1, y3, y2, y4⟩ := h.rt.rezHas hok hs he; obtain ⟨i, hi⟩ := ado y1; rw [y2] at hi; obtain ⟨y', e1, e2⟩ := ab6 hi; obtain ⟨k, hk⟩ := List.mem_iff_getElem?.1 y1; obtain rfl : i = k := h1.one _ _ _ _ e1 hk (by omega); have hsz := h1.sz y1; have hdl : (H.resize o s).2.ds.length = (H.resize o s).2.blks.length := h.dl.resize; have hil : i < (H.resize o s).2.ds.length := by rw [hdl]; exact aa5 hk
 have hfr := fun j hj => by obtain ⟨a, _, c⟩ := h.rt.found (s := s) (i := j) hs hj; exact (⟨a, c⟩ : j < H.blks.length /\ (aag H.blks j).used = false)
 have hmv := h.rt.movesU hs (o := o) hT; obtain ⟨j, x0, a, au, hx⟩ := ahB h.dl h.rt.one he hfr hT hmv (j := i) (x := y) (d := (H.resize o s).2.ds[i]) ⟨hk, List.getElem?_eq_getElem hil⟩ y3; have hx0 : (x0.off : Int) = o := by
  rcases hx with ⟨e, hne⟩ | ⟨e, _⟩
  · exfalso; subst e; rcases aeD he with e | e
    · omega
    · obtain ⟨z, z1, z2, z3, z4, z5, z6⟩ := h.rt.what hs e; have hap := z6 x0 (List.mem_of_getElem? a.1) au; have := h.rt.sz (List.mem_of_getElem? a.1); have ss := (aac _).1 hs; omega
  · exact e
 obtain ⟨c1, c2⟩ := h.ho j x0 _ a au; have hpay : ∀ k, k < (H.resize o s).2.ds[i].2.length -> k + 16 < y.size -> out[y.off + 8 + k]? = (H.resize o s).2.ds[i].2[k]? := fun k k1 k2 => by
  have := hm x0 (List.mem_of_getElem? a.1) au hx0 y y1 y3 y2 (8 + k) (by omega) (by omega) (by omega); rw [y2, show (H.resize o s).1.1 + 8 + k = (H.resize o s).1.1 + (8 + k) by omega, this, show x0.off + (8 + k) = x0.off + 8 + k by omega]; exact c2 k k1
 refine ⟨i, y, j, x0, (H.resize o s).2.ds[i], hi, hk, y2, y3, y4, hsz.2.2.2, a, au, hx0, c1, hpay, fun b2 hag hb2 => ?_⟩; unfold Hp.fill; have eb : aag (H.resize o s).2.blks i = y := abo hk; have ed : (H.resize o s).2.ds.getD i aaR = (H.resize o s).2.ds[i] := by rw [List.getD_eq_getElem?_getD, List.getElem?_eq_getElem hil]; rfl
 rw [eb, ed]; have hL := ahA (H.resize o s).2.ds[i].2 (y.size - 16) v; refine RtD.fills h1 hdl hk y3 _ (by omega) hag (fun k hk2 => hb2 k (by omega)) (fun j2 x d ha hu hne => ?_); obtain ⟨j3, x3, a3, au3, hx3⟩ := ahB h.dl h.rt.one he hfr hT hmv ha hu; rcases hx3 with ⟨rfl, hne3⟩ | ⟨_, e3⟩
 · exact h.keep hh a3 au3 (List.mem_of_getElem? ha.1)
 · exact absurd (h1.one _ _ _ _ ha.1 hk (by omega)) hne
theorem RtD.wrote (h : RtD bs H) {i : Nat} {x : Bk} {d : Dt} (ha : H.At i x d) (hu : x.used = true) (V : Value) (p : Nat) (b : List UInt8) (hp : p + b.length <= d.2.length) : RtD (lay bs (x.off + 8 + p) b) (H.dset i (V, lay d.2 p b)) := by
 obtain ⟨c1, c2⟩ := h.ho i x d ha hu; have hsz := h.rt.sz (List.mem_of_getElem? ha.1); have hll : (lay d.2 p b).length = d.2.length := by
  unfold lay; simp only [List.length_append, List.length_take, List.length_drop]; omega
 refine RtD.fills h.rt h.dl ha.1 hu V (by omega) (aef (x := x) _ _ (by omega) (by omega) (by omega)) (fun k hk => ?_) (fun j z e hz hzu _ => h.ho j z e hz hzu); rw [hll] at hk; by_cases e : k < p \/ p + b.length <= k
 · rw [aiw bs _ b (by omega) _ (by omega), aiw d.2 p b hp k e]; exact c2 k hk
 · rw [show x.off + 8 + k = x.off + 8 + p + (k - p) by omega, ahz bs _ b (by omega) (k - p) (by omega)]; have := ahz d.2 p b (by omega) (k - p) (by omega); rw [show p + (k - p) = k by omega] at this; exact this.symm
end
def adQ (cap : Nat) : Hp := ⟨cap, [], [], fun _ => []⟩
theorem aoH {z : List UInt8} (hz : List.replicate 184 (0 : UInt8) = z) (cap : Nat) (hc : 184 <= cap) : Rt z ⟨cap, [], [], fun _ => []⟩ := by
 have hl : z.length = 184 := by rw [<- hz]; exact List.length_replicate
 have hw0 : ∀ p, p + 8 <= 184 -> p % 8 = 0 -> aae z p = 0 := fun p hp _ => by
  have := adT [] 184 p hp; rw [List.append_nil, hz] at this; exact this
 have hwk : aco z = some [] := adB (by rw [hl]; rfl) (fun x hx => by cases hx); have hli : Lists z [] (fun _ => []) := afM (by omega) (by omega) ⟨fun x hx => (by cases hx), fun x hx => (by cases hx)⟩ hw0; refine ⟨hwk, fun c hc => hli.all hc (Nat.zero_le _), ?_, by show z.length <= cap; omega⟩; have e : abn [] = fun _ => [] := rfl; rw [aeB hwk (by rw [e]; exact hli) (by rw [hw0 0 (by omega) rfl]; omega)]; rfl
theorem amY {z : List UInt8} (hz : List.replicate 184 (0 : UInt8) = z) (cap : Nat) (hc : 184 <= cap) : RtD z (adQ cap) :=
 ⟨aoH hz cap hc, rfl, fun j x d ha => by have h := ha.1; cases h⟩
theorem afV (H : Hp) (hs : ∀ x ∈ H.blks, aaG (x.size : Int) = true) (c : Nat) : ∀ j, j <= H.blks.length -> (aeg H j).lists c = abn (H.blks.take j) c
 | 0, _ => by rw [List.take_zero]; rfl
 | j + 1, hj => by
  have ih := afV H hs c j (by omega); have hx := aax (l := H.blks) (i := j) (by omega); obtain ⟨x, hxe⟩ := nmE (aag H.blks j); rw [hxe] at hx; obtain ⟨k, hk, hk22⟩ := abb (hs x (List.mem_of_getElem? hx)); have ht : H.blks.take (j + 1) = H.blks.take j ++ [x] := by rw [List.take_add_one, hx]; rfl
  rw [ht, adC]; unfold aeg; rw [hxe]
  cases hu : x.used with
  | true => rw [if_pos rfl, if_neg (by intro h; cases h.1)]; exact ih
  | false =>
   rw [if_neg (by decide)]; show adj (aeg H j).lists (adU (aag (aeg H j).blks j)) ((aag (aeg H j).blks j).off :: (aeg H j).lists (adU (aag (aeg H j).blks j))) c = _; rw [(acY H j).1, hxe]; have hcl : adU x = k := by unfold adU; rw [hk]; rfl
   rw [hcl]; unfold adj; by_cases e : c = k
   · subst e; rw [if_pos rfl, if_pos ⟨rfl, hk⟩, ih]
   · rw [if_neg e, if_neg (by intro h; apply e; have := h.2; rw [hk] at this; omega)]; exact ih
theorem ajy : ∀ (l : List Bk) (o e : Nat), abU o l e -> o + l.length * 32 <= e
 | [], o, e, h => by simp [abU] at h; simp; omega
 | x :: r, o, e, h => by
  obtain ⟨h1, h2, h3⟩ := h; have := ajy r _ e h3; have q := (aac _).1 h2; rw [List.length_cons]; omega
theorem amZ {l : List Bk} {e : Nat} (h : abU 184 l e) (he : e <= 16384) : l.length <= 512 := by
 have := ajy _ _ _ h; omega
theorem Rt.rebuilt {bs : List UInt8} {H : Hp} (h : Rt bs H) (hcap : H.cap <= 16384) : ∃ out, acL bs = some out /\ Rt out H.rebuild := by
 obtain ⟨out, e, h1, h2, h3, _, h5⟩ := ahn h.walk (Nat.le_trans h.len hcap); obtain ⟨e1, _, e3⟩ := acY H H.blks.length; have ht := (aaq h.walk).2.1; have hsz : ∀ x ∈ H.blks, aaG (x.size : Int) = true := fun x hx => ((aai _ _ _ ht).2 x hx).2.2.1; refine ⟨out, e, by unfold Hp.rebuild; rw [e1]; exact h3, fun c hc => ?_, by rw [h5]; exact h.nfree.2.1, by unfold Hp.rebuild; rw [e3, h2]; exact h.len⟩; have hl := afV H hsz c H.blks.length (Nat.le_refl _); rw [List.take_length] at hl; show aep out c = some ((aeg H H.blks.length).lists c); rw [hl]; refine h1.all hc (Nat.le_trans (ae0 _ _) ?_); have := amZ ht (Nat.le_trans h.len hcap); omega
def aqX (bs : List UInt8) (l : List Bk) : List Dt := l.map fun x => (.slice none 0 0, (bs.drop (x.off + 8)).take (x.size - 16))
theorem apG {bs : List UInt8} {cap : Nat} (hk : acM bs = true) (hl : bs.length <= cap) : ∃ H : Hp, RtD bs H /\ H.cap = cap := by
 have hk' := hk; unfold acM at hk
 cases hw : aco bs with
 | none => rw [hw] at hk; cases hk
 | some l =>
  rw [hw] at hk; simp only [Bool.and_eq_true] at hk; have ht := (aaq hw).2.1; refine ⟨⟨cap, l, aqX bs l, fun c => (aep bs c).getD []⟩, ⟨⟨hw, fun c hc => ?_, hk', hl⟩, List.length_map _, fun j x d ha _ => ?_⟩, rfl⟩
  · obtain ⟨al, h1, _⟩ := ad9 22 0 _ hk.2.2 c (Nat.zero_le _) (by omega); show aep bs c = some ((aep bs c).getD []); rw [h1]; rfl
  · obtain ⟨h1, h2⟩ := ha; have h1 : l[j]? = some x := h1; have h2 : (l.map fun x => ((.slice none 0 0, (bs.drop (x.off + 8)).take (x.size - 16)) : Dt))[j]? = some d := h2; rw [List.getElem?_map, h1] at h2; injection h2 with h2; subst h2; have hm := (aai _ _ _ ht).2 x (List.mem_of_getElem? h1); have hq := (aac _).1 hm.2.2.1; refine ⟨?_, fun k hk => ?_⟩
    · dsimp only; rw [List.length_take, List.length_drop]; omega
    · dsimp only at hk ⊢; rw [List.length_take] at hk; rw [List.getElem?_take_of_lt (by omega), List.getElem?_drop]
def aa2 : List Bk -> Nat × Nat × Nat
 | [] => (0, 0, 0)
 | x :: r => if x.used = true then ((aa2 r).1 + 1, (aa2 r).2.1, (aa2 r).2.2 + (x.size - 16)) else ((aa2 r).1, (aa2 r).2.1 + 1, (aa2 r).2.2)
structure St5 where
 used : Nat
 free : Nat
 bytes : Nat
 len : Nat
 cap : Nat
def St5.none : St5 := ⟨0, 0, 0, 0, 0⟩
def Hp.stats (H : Hp) : St5 := ⟨(aa2 H.blks).1, (aa2 H.blks).2.1, (aa2 H.blks).2.2, lenB H.blks, H.cap⟩
structure Rp where
 code : Int
 hd : Nat
 n : Nat
 b : List UInt8
 st : St5
def Rp.err (k : Int) : Rp := ⟨k, 0, 0, [], St5.none⟩
def Hp.heldC (H : Hp) (op : Int) (q n p : Nat) (b : List UInt8) : Rp × Hp := match H.handleB q with
 | none => (Rp.err 4, H)
 | some i => if op = 5 then (⟨0, 0, (H.ds.getD i aaR).2.length, [], St5.none⟩, H)
  else if (H.ds.getD i aaR).2.length < p + (if op = 7 then b.length else n) then (Rp.err 2, H)
  else if op = 6 then (⟨0, 0, 0, ((H.ds.getD i aaR).2.drop p).take n, St5.none⟩, H)
  else (Rp.err 0, H.dset i ((H.ds.getD i aaR).1, lay (H.ds.getD i aaR).2 p b))
def akq (r : (Nat × Int) × Hp) : Rp × Hp := (⟨r.1.2, r.1.1, 0, [], St5.none⟩, r.2)
def Hp.doC (H : Hp) (op : Int) (q n m p : Nat) (b : List UInt8) : Rp × Hp :=
 if op = 1 then akq (H.get n 165)
 else if op = 2 then akq (H.calloc n m)
 else if op = 3 then match H.handleB q with
  | none => (Rp.err 4, H)
  | some i => (Rp.err 0, H.give i)
 else if op = 4 then akq (H.realloc q n)
 else if op = 5 \/ op = 6 \/ op = 7 then H.heldC op q n p b
 else if op = 8 then (⟨0, 0, 0, [], H.stats⟩, H)
 else (Rp.err 1, H)
section
variable {H : Hp}
end
theorem acy {bs : List UInt8} {x : Bk} (hs : aaG (x.size : Int) = true) (h : x.off + x.size <= bs.length) (i : Nat) (hi : (i < x.off \/ x.off + 8 <= i) /\ (i < x.off + x.size - 8 \/ x.off + x.size <= i)) : (abJ bs x)[i]? = bs[i]? := by
 have hs := (aac _).1 hs; have e := aal bs x.off (ako x) (by omega); unfold abJ; rw [aen _ _ _ _ (by omega) (by omega), aen _ _ _ _ (by omega) (by omega)]
section
variable {bs : List UInt8} {P Q : List Bk} {L : Nat -> List Nat}
theorem Lists.set (h : Lists bs P L) {x : Bk} (x1 : 184 <= x.off) (x2 : x.off % 16 = 8) (x3 : x.off + x.size <= bs.length) (hs : aaG (x.size : Int) = true)
 (hQ : ∀ y ∈ Q, y = x \/ (y ∈ P /\ (y.off + y.size <= x.off \/ x.off + x.size <= y.off)))
 (hL : ∀ c, c < 22 -> ∀ o ∈ L c, ∃ y ∈ Q, y ∈ P /\ y.off = o /\ (y.off + y.size <= x.off \/ x.off + x.size <= y.off)) : Lists (abJ bs x) Q L := by
 have hl := abw hs x3; have hlen := h.len; have sz := (aac _).1 hs; refine ⟨by omega, by rw [hl]; exact h.small, ⟨fun y hy => ?_, fun y hy z hz => ?_⟩, fun c hc => ?_, fun c hc => ?_, fun c hc o ho => ?_, fun c hc => ?_, h.nodup⟩
 · rcases hQ y hy with rfl | ⟨hy, hd⟩
   · exact aoq x1 x2 x3 hs
   · exact akL hs x3 (h.st.at_ y hy) hd
 · rcases hQ y hy with rfl | ⟨hy, hd⟩
   · rcases hQ z hz with rfl | ⟨hz, hd⟩
     · exact .inl rfl
     · exact .inr hd.symm
   · rcases hQ z hz with rfl | ⟨hz, _⟩
     · exact .inr hd
     · exact h.st.apart y hy z hz
 · rw [abD hs x3 _ (by omega)]; exact h.head c hc
 · rw [abD hs x3 _ (by omega)]; exact h.bit c hc
 · obtain ⟨y, hy, hyP, e, hd⟩ := hL c hc o ho; obtain ⟨z, hz, ez, hu, hcl⟩ := h.mem c hc o ho; have := h.st.uniq hyP hz (by omega); subst this; exact ⟨y, hy, e, hu, hcl⟩
 · refine ab3 (L c) 0 0 (fun o ho => ?_) (h.links c hc); obtain ⟨y, hy, hyP, e, hd⟩ := hL c hc o ho; have hf := h.st.facts hyP; exact ⟨abD hs x3 _ (by omega), abD hs x3 _ (by omega)⟩
theorem aeP (bs : List UInt8) (n i : Nat) (h : i < bs.length) : (bs ++ List.replicate n (0 : UInt8))[i]? = bs[i]? := List.getElem?_append_left h
theorem ab9 (bs : List UInt8) (n p : Nat) (h : p + 8 <= bs.length) : aae (bs ++ List.replicate n 0) p = aae bs p := acE _ _ _ fun i _ h2 => aeP bs n i (by omega)
theorem Lists.more (h : Lists bs P L) (n : Nat) (hn : bs.length + n <= 16384) : Lists (bs ++ List.replicate n 0) P L := by
 have hlen := h.len; have hl : (bs ++ List.replicate n (0 : UInt8)).length = bs.length + n := by rw [List.length_append, List.length_replicate]
 refine ⟨by omega, by omega, ⟨fun y hy => ?_, h.st.apart⟩, fun c hc => ?_, fun c hc => ?_, h.mem, fun c hc => ?_, h.nodup⟩
 · obtain ⟨_, g1, g2, g3, g4, g5, g6⟩ := aaJ (h.st.at_ y hy); have q := (aac _).1 g4; refine aib g1 g2 (by omega) ?_ ?_
   · rw [ab9 _ _ _ (by omega)]; exact g5
   · rw [ab9 _ _ _ (by omega), ab9 _ _ _ (by omega)]; exact g6
 · rw [ab9 _ _ _ (by omega)]; exact h.head c hc
 · rw [ab9 _ _ _ (by omega)]; exact h.bit c hc
 · refine ab3 (L c) 0 0 (fun o ho => ?_) (h.links c hc); obtain ⟨_, y, hyP, e, _⟩ := h.member hc ho; have hf := h.st.facts hyP; exact ⟨ab9 _ _ _ (by omega), ab9 _ _ _ (by omega)⟩
end
theorem afW {bs : List UInt8} {p : Nat} {c : Int} (h : aat bs p c = true) : 184 <= p /\ p + 32 <= bs.length := by
 unfold aat at h
 cases hg : abt bs (p : Int) with
 | none => rw [hg] at h; simp at h
 | some y =>
  obtain ⟨r0, r1, _, r3, r4, _⟩ := aaJ hg; have q := (aac _).1 r4; omega
theorem afX {bs out : List UInt8} {o : Int} (hl : 184 <= bs.length) (h : adR bs o = some out) : aae out 0 / 4194304 = aae bs 0 / 4194304 := by
 unfold adR at h; by_cases hf : abf bs o < 0
 · rw [if_pos hf] at h; cases h
 rw [if_neg hf] at h; have hb : abf bs o < 22 := by
  unfold abf; split
  · rename_i x _; have := act (x.size : Int); split <;> omega
  · omega
 obtain ⟨c, hcc⟩ := nmE ((abf bs o).toNat); have hc22 : c < 22 := by omega
 rw [hcc] at h; dsimp only at h; obtain ⟨n, hn⟩ := nmE (aae bs (o.toNat + 8)); obtain ⟨p, hp⟩ := nmE (aae bs (o.toNat + 16)); rw [hn, hp] at h; split at h
 · cases h
 split at h
 · cases h
 rename_i hp2; split at h
 · cases h
 rename_i hn2; injection h with h; have hpm : p ≠ 0 -> 184 <= p /\ p + 32 <= bs.length := fun e => by
  cases hm : aat bs p (c : Int) with
  | true => exact afW hm
  | false => exact absurd ⟨e, .inl hm⟩ hp2
 have hnm : n ≠ 0 -> 184 <= n /\ n + 32 <= bs.length := fun e => by
  cases hm : aat bs n (c : Int) with
  | true => exact afW hm
  | false => exact absurd ⟨e, .inl hm⟩ hn2
 obtain ⟨b1, hb1⟩ : ∃ b1, (if p = 0 then lyN bs (8 + 8 * c) n else lyN bs (p + 8) n) = b1 := ⟨_, rfl⟩; have f1 : b1.length = bs.length /\ aae b1 0 = aae bs 0 := by
  rw [<- hb1]; by_cases e : p = 0
  · rw [if_pos e]; exact ⟨aal _ _ _ (by omega), aaF _ _ _ _ (by omega) (by omega)⟩
  · have := hpm e; rw [if_neg e]; exact ⟨aal _ _ _ (by omega), aaF _ _ _ _ (by omega) (by omega)⟩
 rw [hb1] at h; obtain ⟨b2, hb2⟩ := nmE ((if n ≠ 0 then lyN b1 (n + 16) p else b1)); have f2 : b2.length = bs.length /\ aae b2 0 = aae bs 0 := by
  rw [<- hb2]; by_cases e : n ≠ 0
  · have := hnm e; rw [if_pos e]; exact ⟨(aal _ _ _ (by omega)).trans f1.1, (aaF _ _ _ _ (by omega) (by omega)).trans f1.2⟩
  · rw [if_neg e]; exact f1
 rw [hb2] at h; obtain ⟨b3, hb3⟩ : ∃ b3, (if p ≠ 0 /\ (aae bs (8 + 8 * c) : Int) = o then lyN b2 (8 + 8 * c) n else b2) = b3 := ⟨_, rfl⟩; have f3 : b3.length = bs.length /\ aae b3 0 = aae bs 0 := by
  rw [<- hb3]; by_cases e : p ≠ 0 /\ (aae bs (8 + 8 * c) : Int) = o
  · rw [if_pos e]; exact ⟨(aal _ _ _ (by omega)).trans f2.1, (aaF _ _ _ _ (by omega) (by omega)).trans f2.2⟩
  · rw [if_neg e]; exact f2
 rw [hb3] at h; rw [<- h, afO _ c hc22 (by omega), f3.2]
theorem ajz : ∀ (l : List Bk) (o e : Nat), abU o l e -> l.length * 32 + o <= e
 | [], o, e, h => by have : o = e := h; simp; omega
 | x :: r, o, e, ⟨_, b, c⟩ => by
  have q := (aac _).1 b; have := ajz r _ e c; rw [List.length_cons]; omega
theorem aix {l : List Bk} {o e : Nat} (ht : abU o l e) (c : Nat) : (abn l c).Nodup := by
 unfold abn; have h := aeq l o e ht; refine List.pairwise_map.2 (List.Pairwise.filter _ (List.pairwise_reverse.2 (h.imp fun h => h.symm)))
theorem adI {bs : List UInt8} {c : Nat} : ∀ (k last p : Nat) (l : List Nat), ad2 bs c k last p = some l -> akJ bs last l 0 /\ l.headD 0 = p
 | k, last, p, l, h => by
  unfold ad2 at h; by_cases hp : p = 0
  · rw [if_pos hp] at h; injection h with h; subst h; exact ⟨trivial, hp.symm⟩
  · rw [if_neg hp] at h
    cases k with
    | zero => cases h
    | succ k =>
     dsimp only at h; split at h
     · rename_i hc
       cases hr : ad2 bs c k p (aae bs (p + 8)) with
       | none => rw [hr] at h; cases h
       | some r =>
        rw [hr] at h; injection h with h; subst h; obtain ⟨i1, i2⟩ := adI k _ _ r hr; exact ⟨⟨hc.2, i2.symm, i1⟩, rfl⟩
     · cases h
structure Md (bs : List UInt8) (H : Hp) : Prop where
 tl : abU 184 H.blks bs.length
 ls : Lists bs H.blks H.lists
 hi : aae bs 0 < 4194304
 len : bs.length <= H.cap
theorem Rt.md {bs : List UInt8} {H : Hp} (h : Rt bs H) (hc : H.cap <= 16384) : Md bs H := by
 obtain ⟨w1, w2, w3⟩ := aaq h.walk; obtain ⟨n1, _, _⟩ := h.nfree; have hl := h.len; have hk := h.chk; unfold acM at hk; rw [h.walk] at hk; simp only [Bool.and_eq_true] at hk; have h0 : aae bs 0 < 4194304 := by
  have e0 : akn bs 0 = aae bs 0 := by unfold akn word?; rw [if_pos (by omega)]; rfl
  rw [<- e0]; exact of_decide_eq_true hk.1
 refine ⟨w2, ⟨w1, by omega, ⟨w3, aa9 _ _ _ w2⟩, fun c hc => ?_, fun c hc => ?_, fun c hc o ho => abL ((n1 c hc).2 o ho), fun c hc => ?_, fun c hc => (n1 c hc).1⟩, h0, hl⟩
 · exact (adI _ _ _ _ (agq (h.all_ c hc)).2).2.symm
 · obtain ⟨b1, b2⟩ := agq (h.all_ c hc); have e := (adI _ _ _ _ b2).2; rw [b1, <- e]
   cases hL : H.lists c with
   | nil => rfl
   | cons o r =>
    obtain ⟨x, hx, ex, _⟩ := abL ((n1 c hc).2 o (by rw [hL]; simp)); have := ((aai _ _ _ w2).2 x hx).1; have : o ≠ 0 := by omega
    simp [this]
 · exact (adI _ _ _ _ (agq (h.all_ c hc)).2).1
theorem ahC {bs : List UInt8} {l : List Bk} {L : Nat -> List Nat} (h : Lists bs l L) (hl : ∀ c, c < 22 -> (L c).length <= 1024) (hn : ∀ c, c < 22 -> (L c).length = (abn l c).length) : ∀ (k c : Nat) (fr : Int), c + k = 22 -> aeN bs l k c fr = (fr - aer l k c == 0)
 | 0, c, fr, _ => by unfold aeN aer; simp
 | k + 1, c, fr, hc => by
  have ha := h.all (c := c) (by omega) (hl c (by omega)); have hok : (L c).all (okO l (L c)) = true := by
   rw [List.all_eq_true]; intro o ho; unfold okO acr; rw [Bool.and_eq_true]; constructor
   · rw [List.any_eq_true]; obtain ⟨x, hx, e, hu, _⟩ := h.mem c (by omega) o ho; exact ⟨x, hx, by simp [e, hu]⟩
   · rw [List.Nodup.count (h.nodup c (by omega)), if_pos ho]; rfl
  unfold aeN; rw [ha]; dsimp only; rw [hok, Bool.true_and, ahC h hl hn k (c + 1) _ (by omega)]; have e : fr - (aer l (k + 1) c : Nat) = fr - ((L c).length : Int) - (aer l k (c + 1) : Nat) := by
   have : aer l (k + 1) c = (abn l c).length + aer l k (c + 1) := rfl; have := hn c (by omega); omega
  rw [e]
theorem Md.sub {bs : List UInt8} {H : Hp} (h : Md bs H) {c : Nat} (hc : c < 22) : ∀ o ∈ H.lists c, o ∈ abn H.blks c := fun o ho => by
 obtain ⟨x, hx, e, hu, hcl⟩ := h.ls.mem c hc o ho; rw [<- e]; exact abr hx hu hcl
theorem Md.small {bs : List UInt8} {H : Hp} (h : Md bs H) {c : Nat} (hc : c < 22) : (H.lists c).length <= 1024 := by
 have h1 := aee (h.ls.nodup c hc) (h.sub hc); have h2 := ae0 H.blks c; have h3 := ajz _ _ _ h.tl; have h4 := h.ls.small; omega
theorem Md.rt {bs : List UInt8} {H : Hp} (h : Md bs H) (hF : ∀ c, c < 22 -> ∀ o ∈ abn H.blks c, o ∈ H.lists c) (hn : aeL H.blks = true) : Rt bs H := by
 have hw : aco bs = some H.blks := adB h.tl h.ls.st.at_; have hlen := h.ls.len; refine ⟨hw, fun c hc => h.ls.all hc (h.small hc), ?_, h.len⟩; have e0 : akn bs 0 = aae bs 0 := by unfold akn word?; rw [if_pos (by omega)]; rfl
 have hnn : ∀ c, c < 22 -> (H.lists c).length = (abn H.blks c).length := fun c hc => Nat.le_antisymm (aee (h.ls.nodup c hc) (h.sub hc)) (aee (aix h.tl c) (hF c hc)); have hm := (aai _ _ _ h.tl).2; unfold acM; rw [hw]; dsimp only; rw [e0, decide_eq_true h.hi, hn, Bool.true_and, Bool.true_and, ahC h.ls (fun c hc => h.small hc) hnn 22 0 _ rfl, agp H.blks (fun x hx => (hm x hx).2.2.1), Int.sub_self]; rfl
def aff : Bool -> List Bk -> Bool
 | _, [] => true
 | u, x :: r => (u || x.used) && aff x.used r
def ahD : Bool -> List Bk -> Bool
 | u, [] => u
 | _, x :: r => ahD x.used r
theorem abR : ∀ (a b : List Bk) (u : Bool), aff u (a ++ b) = (aff u a && aff (ahD u a) b)
 | [], b, u => by simp [aff, ahD]
 | x :: r, b, u => by simp only [List.cons_append, aff, ahD]; rw [abR r b x.used, Bool.and_assoc]
theorem afg : ∀ (a b : List Bk) (u : Bool), ahD u (a ++ b) = ahD (ahD u a) b
 | [], _, _ => rfl
 | x :: r, b, _ => afg r b x.used
theorem aeh {l : List Bk} {j : Nat} {y : Bk} (h : l[j]? = some y) : adO l j = y.used := by unfold adO; rw [h]
theorem ajA : ∀ (l : List Bk) (u : Bool), aff u l = true ↔ (∀ y, l[0]? = some y -> u = true \/ y.used = true) /\ ∀ j, j + 1 < l.length -> adO l (j + 1) = true \/ adO l j = true
 | [], u => by simp [aff]
 | x :: r, u => by
  unfold aff; rw [Bool.and_eq_true, Bool.or_eq_true, ajA r x.used]; constructor
  · rintro ⟨h1, h2, h3⟩; refine ⟨fun y hy => ?_, fun j hj => ?_⟩
    · injection hy with hy; subst hy; exact h1
    · rw [List.length_cons] at hj
      cases j with
      | zero =>
       obtain ⟨y, hy⟩ : ∃ y, r[0]? = some y := ⟨_, List.getElem?_eq_getElem (by omega)⟩; rw [aeh (y := y) (by simpa using hy), aeh (y := x) rfl]; exact (h2 y hy).symm
      | succ j => exact h3 j (by omega)
  · rintro ⟨h1, h2⟩; refine ⟨h1 x rfl, fun y hy => ?_, fun j hj => ?_⟩
    · have hl := aa5 hy; have := h2 0 (by rw [List.length_cons]; omega); rw [aeh (y := y) (by simpa using hy), aeh (y := x) rfl] at this; exact this.symm
    · exact h2 (j + 1) (by rw [List.length_cons]; omega)
theorem abI (l : List Bk) : aeL l = aff true l := by
 rw [Bool.eq_iff_iff, ajA]; unfold aeL; rw [List.all_eq_true]; constructor
 · intro h; refine ⟨fun _ _ => .inl rfl, fun j hj => ?_⟩; have := h (j + 1) (List.mem_range.2 hj); unfold adP at this; rw [Bool.or_eq_true, Bool.or_eq_true, Nat.add_sub_cancel] at this; rcases this with h1 | h1
   · simp at h1
   · exact h1
 · rintro ⟨_, h⟩ j hj; have hj := List.mem_range.1 hj; unfold adP
   cases j with
   | zero => rfl
   | succ j =>
    rw [Bool.or_eq_true, Bool.or_eq_true, Nat.add_sub_cancel]; exact .inr (h j hj)
def tkL (L : Nat -> List Nat) (y : Bk) : Nat -> List Nat := adj L (adU y) ((L (adU y)).filter fun o => o != y.off)
def ptL (L : Nat -> List Nat) (y : Bk) : Nat -> List Nat := adj L (adU y) (y.off :: L (adU y))
def tkO (L : Nat -> List Nat) : Option Bk -> Nat -> List Nat
 | none => L
 | some y => tkL L y
theorem adq (A : List Bk) (y : Bk) (B : List Bk) : aag (A ++ y :: B) A.length = y := abo (by rw [List.getElem?_append_right (Nat.le_refl _), Nat.sub_self]; rfl)
theorem aiy (A : List Bk) (y z : Bk) (B : List Bk) : aag (A ++ y :: z :: B) (A.length + 1) = z := abo (by rw [List.getElem?_append_right (by omega), show A.length + 1 - A.length = 1 by omega]; rfl)
theorem aei {l : List Bk} {i : Nat} (hi : i < l.length) : l = l.take i ++ aag l i :: l.drop (i + 1) /\ (l.take i).length = i := by
 refine ⟨?_, by rw [List.length_take]; omega⟩; have e : l.drop i = aag l i :: l.drop (i + 1) := by
  have h := aax hi; rw [List.getElem?_eq_getElem hi] at h; injection h with h; rw [List.drop_eq_getElem_cons hi, h]
 rw [<- e, List.take_append_drop]
section
variable {H : Hp} {A B : List Bk} {y z : Bk} {i : Nat}
theorem afh (hb : H.blks = A ++ y :: B) (u : Bool) : (H.use A.length u).blks = A ++ { y with used := u } :: B := by
 show H.blks.set A.length { aag H.blks A.length with used := u } = _; rw [hb, adq, List.set_append_right _ _ (Nat.le_refl _), Nat.sub_self]; rfl
theorem ajB (hb : H.blks = A ++ y :: B) (s : Nat) : (H.size A.length s).blks = A ++ { y with size := s } :: B := by
 show H.blks.set A.length { aag H.blks A.length with size := s } = _; rw [hb, adq, List.set_append_right _ _ (Nat.le_refl _), Nat.sub_self]; rfl
theorem agM (hb : H.blks = A ++ y :: z :: B) : (H.join A.length).blks = A ++ { y with size := y.size + z.size } :: B := by
 rw [ab7 H (i := A.length) (by rw [hb]; simp), hb, adq, aiy, List.take_left, show A ++ y :: z :: B = (A ++ [y, z]) ++ B by simp, List.drop_left' (by simp)]
theorem afi (hb : H.blks = A ++ y :: B) : (H.out A.length).lists = tkL H.lists y := by
 show adj H.lists (adU (aag H.blks A.length)) _ = _; rw [hb, adq]; rfl
theorem anZ (hb : H.blks = A ++ y :: B) : (H.in_ A.length).lists = ptL H.lists y := by
 show adj H.lists (adU (aag H.blks A.length)) _ = _; rw [hb, adq]; rfl
end
theorem afj (A : List Bk) (x : Bk) (B : List Bk) : aaH (A ++ x :: B) A.length = match B with
 | [] => false
 | n :: _ => !n.used := by
 unfold aaH
 cases B with
 | nil => simp
 | cons n r =>
  rw [aiy]; simp
theorem ahE (A : List Bk) (p x : Bk) (B : List Bk) : ab5 (A ++ p :: x :: B) (A.length + 1) = !p.used := by
 unfold ab5; rw [Nat.add_sub_cancel, adq]; simp
structure aiz (A1 : List Bk) (p : Option Bk) (n : Option Bk) (B1 : List Bk) : Prop where
 pf : ∀ y, p = some y -> y.used = false
 nf : ∀ y, n = some y -> y.used = false
 pu : p = none -> ∀ y r, A1 = r ++ [y] -> y.used = true
 nu : n = none -> ∀ y r, B1 = y :: r -> y.used = true
theorem aiA (A B : List Bk) : ∃ A1 p n B1, A = A1 ++ p.toList /\ B = n.toList ++ B1 /\ aiz A1 p n B1 := by
 have h1 : ∃ A1 p, A = A1 ++ p.toList /\ (∀ y, p = some y -> y.used = false) /\ (p = none -> ∀ y r, A1 = r ++ [y] -> y.used = true) := by
  rcases List.eq_nil_or_concat A with e | ⟨r, y, e⟩
  · refine ⟨[], none, e, fun y hy => (by cases hy), fun _ y r h => ?_⟩; have := congrArg List.length h; simp at this
  · rw [List.concat_eq_append] at e
    cases hu : y.used with
    | false => exact ⟨r, some y, e, fun z hz => (by injection hz with hz; rw [<- hz]; exact hu), fun h => (by cases h)⟩
    | true =>
     refine ⟨A, none, by simp, fun y hy => (by cases hy), fun _ z r2 h => ?_⟩; rw [e] at h; have := List.append_inj_right' h rfl; injection this with h1; rw [<- h1]; exact hu
 have h2 : ∃ n B1, B = n.toList ++ B1 /\ (∀ y, n = some y -> y.used = false) /\ (n = none -> ∀ y r, B1 = y :: r -> y.used = true) := by
  cases B with
  | nil => exact ⟨none, [], rfl, fun y hy => (by cases hy), fun _ y r h => (by cases h)⟩
  | cons y r =>
   cases hu : y.used with
   | false => exact ⟨some y, r, rfl, fun z hz => (by injection hz with hz; rw [<- hz]; exact hu), fun h => (by cases h)⟩
   | true => exact ⟨none, y :: r, rfl, fun y hy => (by cases hy), fun _ z r2 h => (by injection h with h1 _; rw [<- h1]; exact hu)⟩
 obtain ⟨A1, p, e1, e2, e3⟩ := h1; obtain ⟨n, B1, f1, f2, f3⟩ := h2; exact ⟨A1, p, n, B1, e1, f1, e2, f2, e3, f3⟩
def ads (p : Option Bk) (x : Bk) (n : Option Bk) : Bk := ⟨(p.getD x).off, (p.map Bk.size).getD 0 + x.size + (n.map Bk.size).getD 0, false⟩
theorem aiB {H : Hp} {A1 B1 : List Bk} {p n : Option Bk} {x : Bk} (hb : H.blks = (A1 ++ p.toList) ++ x :: (n.toList ++ B1)) (hN : aiz A1 p n B1) :
 (H.give (A1 ++ p.toList).length).blks = A1 ++ ads p x n :: B1 /\ (H.give (A1 ++ p.toList).length).lists = ptL (tkO (tkO H.lists n) p) (ads p x n) := by
 obtain ⟨A, hA⟩ := nmE (A1 ++ p.toList); rw [hA] at hb ⊢; obtain ⟨H0, hH0⟩ := nmE ((H.use A.length false).wipe A.length); have b0 : H0.blks = A ++ { x with used := false } :: (n.toList ++ B1) := by rw [<- hH0]; exact afh hb false
 have l0 : H0.lists = H.lists := by rw [<- hH0]; rfl
 have h1 : (H0.giveB A.length).blks = A ++ ⟨x.off, x.size + (n.map Bk.size).getD 0, false⟩ :: B1 /\ (H0.giveB A.length).lists = tkO H.lists n := by
  unfold Hp.giveB; rw [b0, afj]
  cases n with
  | none =>
   have e : (match (none : Option Bk).toList ++ B1 with
    | [] => false
    | n :: _ => !n.used) = false := by
    cases B1 with
    | nil => rfl
    | cons y r =>
     show (!y.used) = false; rw [hN.nu rfl y r rfl]; rfl
   rw [e, if_neg (by simp)]; exact ⟨b0, l0⟩
  | some m =>
   have hm := hN.nf m rfl; show (if (!m.used) = true then _ else _ : Hp).blks = _ /\ (if (!m.used) = true then _ else _ : Hp).lists = _; rw [hm, if_pos (by rfl)]; constructor
   · exact agM (H := H0.out (A.length + 1)) (y := { x with used := false }) (z := m) b0
   · have b0' : H0.blks = (A ++ [{ x with used := false }]) ++ m :: B1 := by rw [b0]; simp
     have := afi b0'; rw [List.length_append, List.length_singleton] at this; show (H0.out (A.length + 1)).lists = _; rw [this, l0]; rfl
 obtain ⟨b1, l1⟩ := h1; have e : H.give A.length = (H0.giveB A.length).giveC A.length := by rw [<- hH0]; rfl
 rw [e]; obtain ⟨G, hG⟩ := nmE (H0.giveB A.length); rw [hG] at b1 l1 ⊢; unfold Hp.giveC
 cases p with
 | none =>
  have hA : A1 = A := by rw [<- hA]; simp
  have hp : ab5 G.blks A.length = false := by
   rcases List.eq_nil_or_concat A with e | ⟨r, y, e⟩
   · rw [b1, e]; rfl
   · rw [List.concat_eq_append] at e; have hu := hN.pu rfl y r (by rw [hA]; exact e); rw [b1, e, List.append_assoc, List.length_append]; exact (ahE r y _ B1).trans (by rw [hu]; rfl)
  rw [hp, if_neg (by simp)]; have hw : ads none x n = ⟨x.off, x.size + (n.map Bk.size).getD 0, false⟩ := by unfold ads; simp
  rw [hw]; refine ⟨by rw [hA]; exact b1, ?_⟩; rw [anZ b1, l1]; rfl
 | some q =>
  have hq := hN.pf q rfl; have hA' : A = A1 ++ [q] := by rw [<- hA]; rfl
  have b1' : G.blks = A1 ++ q :: ⟨x.off, x.size + (n.map Bk.size).getD 0, false⟩ :: B1 := by rw [b1, hA']; simp
  have hlen : A.length = A1.length + 1 := by rw [hA']; simp
  rw [hlen, Nat.add_sub_cancel, b1', ahE, hq, if_pos (by rfl)]; have hw : ads (some q) x n = { q with size := q.size + (x.size + (n.map Bk.size).getD 0) } := by
   unfold ads; show Bk.mk q.off (q.size + x.size + (n.map Bk.size).getD 0) false = Bk.mk q.off (q.size + (x.size + (n.map Bk.size).getD 0)) q.used; rw [hq, Nat.add_assoc]
  have b2 : ((G.out A1.length).join A1.length).blks = A1 ++ ads (some q) x n :: B1 := by
   rw [hw]; exact agM (H := G.out A1.length) b1'
  refine ⟨b2, ?_⟩; rw [anZ b2]; show ptL (G.out A1.length).lists _ = _; rw [afi b1', l1]; rfl
def Pay (z : Bk) (i : Nat) : Prop := z.off + 8 <= i /\ i + 8 < z.off + z.size
theorem Kept.pay {P : List Bk} {bs out : List UInt8} (h : Kept P bs out) (h1 : ∀ y ∈ P, 184 <= y.off /\ 32 <= y.size) (ha : ∀ x ∈ P, ∀ y ∈ P, x = y \/ x.off + x.size <= y.off \/ y.off + y.size <= x.off) {z : Bk} (hz : z ∈ P) (hu : z.used = true) {i : Nat} (hi : Pay z i) : out[i]? = bs[i]? := by
 have hz1 := h1 z hz; obtain ⟨p1, p2⟩ := hi; refine h i (by omega) fun y hy hyu => ?_; have hy1 := h1 y hy; rcases ha z hz y hy with rfl | hd | hd
 · rw [hu] at hyu; cases hyu
 · omega
 · omega
theorem acZ {y : Bk} (h : aaG (y.size : Int) = true) : aar (y.size : Int) = (adU y : Int) /\ adU y < 22 := by
 obtain ⟨c, h1, h2⟩ := abb h; unfold adU; rw [h1]; exact ⟨rfl, h2⟩
theorem aiC {L : Nat -> List Nat} {y : Bk} {c o : Nat} : o ∈ tkL L y c ↔ o ∈ L c /\ (c = adU y -> o ≠ y.off) := by
 unfold tkL adj; by_cases h : c = adU y
 · subst h; rw [if_pos rfl, List.mem_filter]; simp
 · rw [if_neg h]; simp [h]
theorem adc {L : Nat -> List Nat} {p : Option Bk} {c o : Nat} : o ∈ tkO L p c ↔ o ∈ L c /\ ∀ y, p = some y -> c = adU y -> o ≠ y.off := by
 cases p with
 | none => simp [tkO]
 | some y => simp [tkO, aiC]
theorem aoI {L : Nat -> List Nat} {y : Bk} {c o : Nat} : o ∈ ptL L y c ↔ (c = adU y /\ o = y.off) \/ o ∈ L c := by
 unfold ptL adj; by_cases h : c = adU y
 · subst h; rw [if_pos rfl, List.mem_cons]; simp
 · rw [if_neg h]; simp [h]
theorem aaY (u : Bool) (x : Bk) (r : List Bk) : aff u (x :: r) = ((u || x.used) && aff x.used r) := rfl
def alu (bs : List UInt8) : Option Bk -> Option (List UInt8)
 | none => some bs
 | some y => adR bs (y.off : Int)
section
variable {bs : List UInt8} {H : Hp}
theorem Md.congr {H' : Hp} (h : Md bs H) (e1 : H'.blks = H.blks) (e2 : H'.lists = H.lists) (e3 : H'.cap = H.cap) : Md bs H' := ⟨by rw [e1]; exact h.tl, by rw [e1, e2]; exact h.ls, h.hi, by rw [e3]; exact h.len⟩
theorem Md.facts (h : Md bs H) : ∀ y ∈ H.blks, 184 <= y.off /\ 32 <= y.size := fun y hy => by
 have := h.ls.st.facts hy; omega
theorem Md.takeO (h : Md bs H) (n : Option Bk) (hn : ∀ y, n = some y -> y ∈ H.blks /\ y.off ∈ H.lists (adU y)) : ∃ out, alu bs n = some out /\ Md out { H with lists := tkO H.lists n } /\ out.length = bs.length /\ Kept H.blks bs out := by
 cases n with
 | none => exact ⟨bs, rfl, h, rfl, Kept.refl _ _⟩
 | some y =>
  obtain ⟨hy, hm⟩ := hn y rfl; have hf := h.ls.st.facts hy; obtain ⟨_, hc22⟩ := acZ hf.2.2.2.2.2; obtain ⟨out, h1, h2, h3, h4⟩ := h.ls.take hy hc22 hm; have e : (fun q : Nat => decide (q ≠ y.off)) = (fun o => o != y.off) := by funext q; simp [bne]; rfl
  rw [e] at h2; have h5 := afX h.ls.len h1; have h6 := h.hi; exact ⟨out, h1, ⟨by rw [h3]; exact h.tl, h2, by omega, by rw [h3]; exact h.len⟩, h3, h4⟩
theorem Md.put (h : Md bs H) {y : Bk} (hy : y ∈ H.blks) (hu : y.used = false) (hm : y.off ∉ H.lists (adU y)) : ∃ out, afI bs (y.off : Int) = some out /\ Md out { H with lists := ptL H.lists y } /\ out.length = bs.length /\ Kept H.blks bs out := by
 have hf := h.ls.st.facts hy; obtain ⟨hc, hc22⟩ := acZ hf.2.2.2.2.2; obtain ⟨out, h1, h2, h3, h4⟩ := h.ls.put hy hu hc hc22 hm; have h5 := (ae1 h.ls.len h1).2; have h6 := h.hi; exact ⟨out, h1, ⟨by rw [h3]; exact h.tl, h2, by omega, by rw [h3]; exact h.len⟩, h3, h4⟩
def frO : Option Bk -> Option Bk
 | none => none
 | some y => if y.used = true then none else some y
theorem am0 (bs : List UInt8) : abt bs (bs.length : Int) = none := by
 cases h : abt bs (bs.length : Int) with
 | none => rfl
 | some x =>
  obtain ⟨h1, _, _, h2, h3, _⟩ := aaJ h; have := (aac _).1 h3; omega
theorem aj2 (bs : List UInt8) : abT bs 184 = none := by
 unfold abT; split
 · rfl
 · split
   · rfl
   · split
     · rfl
     · rename_i s u _ x hg; obtain ⟨h1, h2, _, _, h3, _⟩ := aaJ hg; have := (aac _).1 h3; rw [if_neg (by omega)]
theorem Md.behind (h : Md bs H) {A1 B1 : List Bk} {p n : Option Bk} {x : Bk} (hb : H.blks = (A1 ++ p.toList) ++ x :: (n.toList ++ B1)) (hN : aiz A1 p n B1) : frO (abt bs ((x.off : Int) + (x.size : Int))) = n := by
 have ht := h.tl; rw [hb, aaS] at ht; obtain ⟨_, h1, _, h3⟩ := ht; have e : (x.off : Int) + (x.size : Int) = ((184 + abh (A1 ++ p.toList) + x.size : Nat) : Int) := by omega
 rw [e]; obtain ⟨q, hq⟩ := nmE (184 + abh (A1 ++ p.toList) + x.size); rw [hq] at h3 ⊢
 cases n with
 | some m =>
  obtain ⟨a, _, _⟩ := h3; rw [<- a, h.ls.st.at_ m (by rw [hb]; simp)]; show (if m.used = true then none else some m) = some m; rw [hN.nf m rfl, if_neg (by simp)]
 | none =>
  cases B1 with
  | nil =>
   have e : q = bs.length := h3; rw [e, am0]; rfl
  | cons y r =>
   obtain ⟨a, _, _⟩ := h3; rw [<- a, h.ls.st.at_ y (by rw [hb]; simp)]; show (if y.used = true then none else some y) = none; rw [hN.nu rfl y r rfl, if_pos rfl]
theorem Md.ends (h : Md bs H) {A B : List Bk} (hb : H.blks = A ++ B) {o : Nat} (ho : o = 184 + abh A) : (A = [] /\ abT bs (o : Int) = none) \/ ∃ r y, A = r ++ [y] /\ abT bs (o : Int) = some y := by
 rcases List.eq_nil_or_concat A with e | ⟨r, y, e⟩
 · left; subst e; subst ho; exact ⟨rfl, aj2 bs⟩
 · right; rw [List.concat_eq_append] at e; refine ⟨r, y, e, ?_⟩; have ht := h.tl; rw [hb, e, List.append_assoc, aaS] at ht; obtain ⟨_, h1, _, _⟩ := ht; have hy := akM (h.ls.st.at_ y (by rw [hb, e]; simp)); have e2 : (o : Int) = (y.off : Int) + (y.size : Int) := by
    rw [ho, e, adD]; show ((184 + (abh r + (y.size + 0)) : Nat) : Int) = _; omega
   rw [e2]; exact hy
theorem Md.ahead (h : Md bs H) {A1 B1 : List Bk} {p n : Option Bk} {x : Bk} (hb : H.blks = (A1 ++ p.toList) ++ x :: (n.toList ++ B1)) (hN : aiz A1 p n B1) : frO (abT bs (x.off : Int)) = p := by
 have ht := h.tl; rw [hb, aaS] at ht; obtain ⟨_, h1, _, _⟩ := ht; rcases h.ends hb h1 with ⟨e, e2⟩ | ⟨r, y, e, e2⟩
 · rw [e2]
   cases p with
   | none => rfl
   | some q => simp at e
 · rw [e2]
   cases p with
   | none =>
    show (if y.used = true then none else some y) = none; rw [hN.pu rfl y r (by simpa using e), if_pos rfl]
   | some q =>
    have h1 : q = y := by
     have := congrArg List.getLast? e; simpa using this
    have hq := hN.pf q rfl; rw [h1] at hq ⊢; unfold frO; dsimp only; rw [hq, if_neg (by simp)]
theorem Rt.gives (h : Rt bs H) (hc : H.cap <= 16384) {A1 B1 : List Bk} {p n : Option Bk} {x : Bk} (hb : H.blks = (A1 ++ p.toList) ++ x :: (n.toList ++ B1)) (hN : aiz A1 p n B1) (hu : x.used = true) :
 ∃ b1 b2 out, alu bs n = some b1 /\ alu b1 p = some b2 /\ adM b2 ((ads p x n).off : Int) ((ads p x n).size : Int) false = some (abJ b2 (ads p x n)) /\ afI (abJ b2 (ads p x n)) ((ads p x n).off : Int) = some out /\
  b1.length = bs.length /\ b2.length = bs.length /\ (abJ b2 (ads p x n)).length = bs.length /\ out.length = bs.length /\ Rt out (H.give (A1 ++ p.toList).length) /\ ∀ z ∈ H.blks, z.used = true -> z ≠ x -> ∀ i, Pay z i -> out[i]? = bs[i]? := by
 obtain ⟨gb, gl⟩ := aiB hb hN; have gc : (H.give (A1 ++ p.toList).length).cap = H.cap := aeO; obtain ⟨w, hw⟩ := nmE (ads p x n); have hwu : w.used = false := by rw [<- hw]; rfl
 rw [hw] at gb gl ⊢; have hM := h.md hc; have hF := h.complete; have hadj : aff true H.blks = true := by rw [<- abI]; exact h.nfree.2.1
 have hsm := hM.ls.small; have ht := hM.tl; rw [hb, aaS, aaS, adD] at ht; obtain ⟨⟨t1, t2⟩, t3, t4, t5⟩ := ht; obtain ⟨o1, ho1⟩ := nmE (184 + abh A1); obtain ⟨e, he⟩ := nmE bs.length; rw [he] at t5; have hp : (p = none /\ w.off = o1 /\ x.off = o1 /\ w.size = x.size + (n.map Bk.size).getD 0) \/ ∃ q, p = some q /\ q.off = o1 /\ aaG (q.size : Int) = true /\ x.off = o1 + q.size /\ w.off = o1 /\ w.size = q.size + x.size + (n.map Bk.size).getD 0 := by
  cases p with
  | none =>
   left; have e1 : x.off = o1 := by rw [t3, <- ho1]; simp [abh]
   refine ⟨rfl, ?_, e1, ?_⟩
   · rw [<- hw]; exact e1
   · rw [<- hw]; show 0 + x.size + _ = _; omega
  | some q =>
   right; obtain ⟨a, b, _⟩ := t2; refine ⟨q, rfl, by rw [a, ho1], b, ?_, ?_, ?_⟩
   · rw [t3, <- ho1]; simp [abh]; omega
   · rw [<- hw]; show q.off = _; rw [a, ho1]
   · rw [<- hw]; rfl
 have hxo : 184 + (abh A1 + abh p.toList) = x.off := t3.symm; have t1' : abU 184 A1 o1 := by rw [<- ho1]; exact t1
 rw [hxo] at t5; rw [aaS] at t5; obtain ⟨t6, t7⟩ := t5; have hn : (n = none /\ (n.map Bk.size).getD 0 = 0 /\ abh n.toList = 0) \/ ∃ m, n = some m /\ m.off = x.off + x.size /\ aaG (m.size : Int) = true /\ (n.map Bk.size).getD 0 = m.size /\ abh n.toList = m.size := by
  cases n with
  | none => exact .inl ⟨rfl, rfl, rfl⟩
  | some m =>
   obtain ⟨a, b, _⟩ := t6; exact .inr ⟨m, rfl, a, b, rfl, by simp [abh]⟩
 obtain ⟨mA1, mA⟩ := aai A1 _ _ t1'; obtain ⟨mB1, mB⟩ := aai B1 _ _ t7; have sx := (aac _).1 t4; have hwe : w.off + w.size = x.off + x.size + abh n.toList /\ w.off = o1 /\ o1 <= x.off /\ w.size % 16 = 0 /\ 32 <= w.size := by
  rcases hp with ⟨_, p1, p2, p3⟩ | ⟨q, _, p1, p4, p2, p5, p3⟩
  · rcases hn with ⟨_, n1, n2⟩ | ⟨m, _, n0, n3, n1, n2⟩
    · omega
    · have := (aac _).1 n3; omega
  · have := (aac _).1 p4; rcases hn with ⟨_, n1, n2⟩ | ⟨m, _, n0, n3, n1, n2⟩
    · omega
    · have := (aac _).1 n3; omega
 obtain ⟨w1, w2, w3, w4, w5⟩ := hwe; have ho1e : o1 % 16 = 8 /\ 184 <= o1 := by
  refine ⟨?_, by omega⟩; have hxm := ((aai _ _ _ hM.tl).2 x (by rw [hb]; simp)).2.2.2; rcases hp with ⟨_, p1, p2, p3⟩ | ⟨q, _, p1, p4, p2, p5, p3⟩
  · omega
  · have := (aac _).1 p4; omega
 have hws : aaG (w.size : Int) = true := (aac _).2 (by omega); have inA : ∀ y ∈ A1, y.off + y.size <= w.off := fun y hy => by have := mA y hy; omega
 have inB : ∀ y ∈ B1, w.off + w.size <= y.off := fun y hy => by have := mB y hy; omega
 have hn0 : ∀ y, n = some y -> y ∈ H.blks /\ y.off ∈ H.lists (adU y) := fun y hy => by
  have hm : y ∈ H.blks := by rw [hb, hy]; simp
  obtain ⟨c1, c2⟩ := acZ (hM.ls.st.facts hm).2.2.2.2.2; exact ⟨hm, hF _ c2 _ (abr hm (hN.nf y hy) c1)⟩
 obtain ⟨b1, e1, M1, l1, k1⟩ := hM.takeO n hn0; have hp0 : ∀ y, p = some y -> y ∈ H.blks /\ y.off ∈ tkO H.lists n (adU y) := fun y hy => by
  have hm : y ∈ H.blks := by rw [hb, hy]; simp
  obtain ⟨c1, c2⟩ := acZ (hM.ls.st.facts hm).2.2.2.2.2; refine ⟨hm, adc.2 ⟨hF _ c2 _ (abr hm (hN.pf y hy) c1), fun z hz _ => ?_⟩⟩; rcases hp with ⟨p0, _⟩ | ⟨q, p0, p1, p4, p2, _⟩
  · rw [p0] at hy; cases hy
  · rw [p0] at hy; injection hy with hy; subst hy; rcases hn with ⟨n0, _⟩ | ⟨m, n0, n1, _⟩
    · rw [n0] at hz; cases hz
    · rw [n0] at hz; injection hz with hz; subst hz; omega
 obtain ⟨b2, e2, M2, l2, k2⟩ := M1.takeO p hp0; have k2 : Kept H.blks b1 b2 := k2; have M2L : Lists b2 H.blks (tkO (tkO H.lists n) p) := M2.ls; have hwl : w.off + w.size <= b2.length := by
  rcases B1 with _ | ⟨y, r⟩
  · have : x.off + x.size + abh n.toList = e := t7; omega
  · have := mB1; omega
 have hL : ∀ c, c < 22 -> ∀ o ∈ tkO (tkO H.lists n) p c, ∃ y ∈ A1 ++ w :: B1, y ∈ H.blks /\ y.off = o /\ (y.off + y.size <= w.off \/ w.off + w.size <= y.off) := fun c hc o ho => by
  rw [adc, adc] at ho; obtain ⟨⟨ho, hno⟩, hpo⟩ := ho; obtain ⟨y, hy, ey, hyu, hyc⟩ := hM.ls.mem c hc o ho; obtain ⟨c1, _⟩ := acZ (hM.ls.st.facts hy).2.2.2.2.2; have hcc : c = adU y := by omega
  have hy' := hy; rw [hb] at hy; rcases List.mem_append.1 hy with hy | hy
  · rcases List.mem_append.1 hy with hy | hy
    · exact ⟨y, by simp [hy], hy', ey, .inl (inA y hy)⟩
    · exact absurd ey.symm (hpo y (by simpa using hy) hcc)
  · rcases List.mem_cons.1 hy with rfl | hy
    · rw [hu] at hyu; cases hyu
    · rcases List.mem_append.1 hy with hy | hy
      · exact absurd ey.symm (hno y (by simpa using hy) hcc)
      · exact ⟨y, by simp [hy], hy', ey, .inr (inB y hy)⟩
 have hQ : ∀ y ∈ A1 ++ w :: B1, y = w \/ (y ∈ H.blks /\ (y.off + y.size <= w.off \/ w.off + w.size <= y.off)) := fun y hy => by
  rcases List.mem_append.1 hy with hy | hy
  · exact .inr ⟨by rw [hb]; simp [hy], .inl (inA y hy)⟩
  · rcases List.mem_cons.1 hy with rfl | hy
    · exact .inl rfl
    · exact .inr ⟨by rw [hb]; simp [hy], .inr (inB y hy)⟩
 have w184 : 184 <= w.off := by omega
 have w16 : w.off % 16 = 8 := by omega
 have LS := M2L.set w184 w16 hwl hws hQ hL; have l3 := abw hws hwl; have M3 : Md (abJ b2 w) { H with blks := A1 ++ w :: B1, lists := tkO (tkO H.lists n) p } := by
  refine ⟨?_, LS, ?_, by rw [l3, l2, l1]; exact hM.len⟩
  · show abU 184 (A1 ++ w :: B1) _; rw [l3, l2, l1, aaS, ho1, he]; refine ⟨t1', w2, hws, ?_⟩; rw [show o1 + w.size = x.off + x.size + abh n.toList by omega]; exact t7
  · rw [abD hws hwl _ (by omega)]; exact M2.hi
 have hwm : w.off ∉ tkO (tkO H.lists n) p (adU w) := fun hm => by
  obtain ⟨_, c2⟩ := acZ hws; obtain ⟨y, _, hyP, ey, hd⟩ := hL _ c2 _ hm; have := hM.facts y hyP; omega
 obtain ⟨out, e4, M4, l4, k4⟩ := M3.put (y := w) (by simp) hwu hwm; refine ⟨b1, b2, out, e1, e2, ?_, e4, l1, by rw [l2, l1], by rw [l3, l2, l1], by rw [l4, l3, l2, l1], ?_, fun z hz hzu hzx i hi => ?_⟩
 · have := aes b2 w w184 w16 hwl hws; rw [hwu] at this; exact this
 ·
  refine Md.rt (M4.congr gb gl gc) (fun c hc o ho => ?_) ?_
  · rw [gb] at ho; rw [gl, aoI]; obtain ⟨y, hy, ey, hyu, hyc⟩ := abL ho; rcases hQ y hy with rfl | ⟨hyP, hd⟩
    · left; obtain ⟨c1, _⟩ := acZ hws; exact ⟨by omega, ey.symm⟩
    · right; rw [adc, adc]; refine ⟨⟨by rw [<- ey]; exact hF c hc _ (abr hyP hyu hyc), fun z hz _ => ?_⟩, fun z hz _ => ?_⟩
      · have hz0 : z.off = x.off + x.size /\ z.off + z.size <= w.off + w.size := by
         rcases hn with ⟨n0, _⟩ | ⟨m, n0, n1, _, _, n4⟩
         · rw [n0] at hz; cases hz
         · rw [n0] at hz; injection hz with hz; subst hz; omega
        have := hM.facts y hyP; have := hM.facts z (hn0 z hz).1; omega
      · have hz0 : z.off = o1 /\ z.off + z.size <= w.off + w.size := by
         rcases hp with ⟨p0, _⟩ | ⟨q, p0, p1, p4, p2, _⟩
         · rw [p0] at hz; cases hz
         · rw [p0] at hz; injection hz with hz; subst hz; omega
        have := hM.facts y hyP; have := hM.facts z (hp0 z hz).1; omega
  · rw [gb, abI, abR]; rw [hb, abR, abR, aaY] at hadj; rw [aaY]; simp only [Bool.and_eq_true, Bool.or_eq_true] at hadj ⊢; obtain ⟨⟨a1, a2⟩, _, a3⟩ := hadj; rw [hwu]; refine ⟨a1, .inl ?_, ?_⟩
    · cases p with
      | none =>
       rcases List.eq_nil_or_concat A1 with e | ⟨r, y, e⟩
       · rw [e]; rfl
       · rw [List.concat_eq_append] at e; rw [e, afg]; exact hN.pu rfl y r e
      | some q =>
       have hq := hN.pf q rfl; have a2 : aff (ahD true A1) [q] = true := a2; rw [aaY, hq, Bool.or_false, Bool.and_eq_true] at a2; exact a2.1
    · rw [hu] at a3
      cases n with
      | none =>
       cases B1 with
       | nil => rfl
       | cons y r =>
        have hy := hN.nu rfl y r rfl; have a3 : aff true (y :: r) = true := a3; rw [aaY, hy, Bool.and_eq_true] at a3; rw [aaY, hy, Bool.and_eq_true]; exact ⟨rfl, a3.2⟩
      | some m =>
       have hm := hN.nf m rfl; have a3 : aff true (m :: B1) = true := a3; rw [aaY, hm, Bool.and_eq_true] at a3; exact a3.2
 ·
  have hz2 : z ∈ A1 \/ z ∈ B1 := by
   rw [hb] at hz; rcases List.mem_append.1 hz with hz | hz
   · rcases List.mem_append.1 hz with hz | hz
     · exact .inl hz
     · have := hN.pf z (by simpa using hz); rw [hzu] at this; cases this
   · rcases List.mem_cons.1 hz with hz | hz
     · exact absurd hz hzx
     · rcases List.mem_append.1 hz with hz | hz
       · have := hN.nf z (by simpa using hz); rw [hzu] at this; cases this
       · exact .inr hz
  have hzf := hM.facts z hz; have ap := hM.ls.st.apart; have zw : z.off + z.size <= w.off \/ w.off + w.size <= z.off := by
   rcases hz2 with h2 | h2
   · exact .inl (inA z h2)
   · exact .inr (inB z h2)
  have zQ : z ∈ A1 ++ w :: B1 := by rcases hz2 with h2 | h2 <;> simp [h2]
  have s4 := k4.pay M3.facts M3.ls.st.apart (z := z) zQ hzu hi; obtain ⟨i1, i2⟩ := hi; have s3 := acy hws hwl i (by omega); rw [s4, s3, k2.pay hM.facts ap hz hzu ⟨i1, i2⟩, k1.pay hM.facts ap hz hzu ⟨i1, i2⟩]
end
section
variable {bs : List UInt8} {H : Hp}
theorem Rt.congr {H' : Hp} (h : Rt bs H) (e1 : H'.blks = H.blks) (e2 : H'.lists = H.lists) (e3 : H'.cap = H.cap) : Rt bs H' := ⟨by rw [e1]; exact h.walk, by rw [e2]; exact h.all_, h.chk, by rw [e3]; exact h.len⟩
theorem Lists.takeO {P : List Bk} {L : Nat -> List Nat} (h : Lists bs P L) (n : Option Bk) (hn : ∀ y, n = some y -> y ∈ P /\ y.off ∈ L (adU y)) : ∃ out, alu bs n = some out /\ Lists out P (tkO L n) /\ out.length = bs.length /\ Kept P bs out /\ aae out 0 / 4194304 = aae bs 0 / 4194304 := by
 cases n with
 | none => exact ⟨bs, rfl, h, rfl, Kept.refl _ _, rfl⟩
 | some y =>
  obtain ⟨hy, hm⟩ := hn y rfl; have hf := h.st.facts hy; obtain ⟨_, hc22⟩ := acZ hf.2.2.2.2.2; obtain ⟨out, h1, h2, h3, h4⟩ := h.take hy hc22 hm; have e : (fun q : Nat => decide (q ≠ y.off)) = (fun o => o != y.off) := by funext q; simp [bne]; rfl
  rw [e] at h2; exact ⟨out, h1, h2, h3, h4, afX h.len h1⟩
theorem aeQ {A B : List Bk} {x : Bk} {e : Nat} (ht : abU 184 (A ++ x :: B) e) : abU 184 A x.off /\ aaG (x.size : Int) = true /\ abU (x.off + x.size) B e /\ x.off % 16 = 8 /\ 184 <= x.off /\ x.off + x.size <= e /\ (∀ y ∈ A, y.off + y.size <= x.off) /\ ∀ y ∈ B, x.off + x.size <= y.off := by
 have hx := (aai _ _ _ ht).2 x (by simp); rw [aaS] at ht; obtain ⟨t1, t2, t3, t4⟩ := ht; rw [<- t2] at t1 t4; exact ⟨t1, t3, t4, by omega, by omega, by omega, fun y hy => ((aai _ _ _ t1).2 y hy).2.1, fun y hy => ((aai _ _ _ t4).2 y hy).1⟩
theorem Rt.cuts (h : Rt bs H) (hc : H.cap <= 16384) {A B : List Bk} {x : Bk} (hb : H.blks = A ++ x :: B) (hu : x.used = true) {s : Nat} (hs : aaG (s : Int) = true) (hle : s + 32 <= x.size) :
 adM bs (x.off : Int) (s : Int) true = some (abJ bs ⟨x.off, s, true⟩) /\
 adM (abJ bs ⟨x.off, s, true⟩) ((x.off + s : Nat) : Int) ((x.size - s : Nat) : Int) true = some (abJ (abJ bs ⟨x.off, s, true⟩) ⟨x.off + s, x.size - s, true⟩) /\
 (abJ bs ⟨x.off, s, true⟩).length = bs.length /\ (abJ (abJ bs ⟨x.off, s, true⟩) ⟨x.off + s, x.size - s, true⟩).length = bs.length /\
 (((H.use A.length true).size A.length s).put (A.length + 1) ⟨x.off + s, x.size - s, true⟩).blks = (A ++ [⟨x.off, s, true⟩]) ++ ⟨x.off + s, x.size - s, true⟩ :: B /\
 Rt (abJ (abJ bs ⟨x.off, s, true⟩) ⟨x.off + s, x.size - s, true⟩) (((H.use A.length true).size A.length s).put (A.length + 1) ⟨x.off + s, x.size - s, true⟩) /\
 (∀ z ∈ H.blks, z ≠ x -> ∀ i, Pay z i -> (abJ (abJ bs ⟨x.off, s, true⟩) ⟨x.off + s, x.size - s, true⟩)[i]? = bs[i]?) /\ (∀ i, Pay ⟨x.off, s, true⟩ i -> (abJ (abJ bs ⟨x.off, s, true⟩) ⟨x.off + s, x.size - s, true⟩)[i]? = bs[i]?) := by
 have hM := h.md hc; have hF := h.complete; have hadj : aff true H.blks = true := by rw [<- abI]; exact h.nfree.2.1
 have ht := hM.tl; rw [hb] at ht; obtain ⟨t1, t2, t3, t4, t5, t6, tA, tB⟩ := aeQ ht; have sx := (aac _).1 t2; have ss := (aac _).1 hs; have hs2 : aaG ((x.size - s : Nat) : Int) = true := (aac _).2 (by omega); obtain ⟨y1, hy1⟩ : ∃ y1 : Bk, y1 = ⟨x.off, s, true⟩ := ⟨_, rfl⟩; obtain ⟨y2, hy2⟩ : ∃ y2 : Bk, y2 = ⟨x.off + s, x.size - s, true⟩ := ⟨_, rfl⟩; have o1 : y1.off = x.off := by rw [hy1]
 have z1 : y1.size = s := by rw [hy1]
 have u1 : y1.used = true := by rw [hy1]
 have o2 : y2.off = x.off + s := by rw [hy2]
 have z2 : y2.size = x.size - s := by rw [hy2]
 have u2 : y2.used = true := by rw [hy2]
 have s1 : adM bs (y1.off : Int) (y1.size : Int) y1.used = some (abJ bs y1) := aes bs y1 (by omega) (by omega) (by omega) (by rw [z1]; exact hs); have l1 : (abJ bs y1).length = bs.length := abw (by rw [z1]; exact hs) (by omega); have s2 : adM (abJ bs y1) (y2.off : Int) (y2.size : Int) y2.used = some (abJ (abJ bs y1) y2) := aes _ y2 (by omega) (by omega) (by omega) (by rw [z2]; exact hs2); have l2 : (abJ (abJ bs y1) y2).length = bs.length := (abw (by rw [z2]; exact hs2) (by omega)).trans l1; rw [o1, z1, u1] at s1; rw [o2, z2, u2] at s2; rw [<- hy2, <- hy1]; have hblk : (((H.use A.length true).size A.length s).put (A.length + 1) y2).blks = (A ++ [y1]) ++ y2 :: B := by
  have e : ((H.use A.length true).size A.length s).blks = (A ++ [y1]) ++ B := by
   rw [ajB (afh hb true) s, hy1]; simp
  show ((H.use A.length true).size A.length s).blks.take (A.length + 1) ++ y2 :: ((H.use A.length true).size A.length s).blks.drop (A.length + 1) = _; rw [e, List.take_left' (by simp), List.drop_left' (by simp)]
 have hL : ∀ c, c < 22 -> ∀ o ∈ H.lists c, ∃ y, (y ∈ A \/ y ∈ B) /\ y ∈ H.blks /\ y.off = o /\ (y.off + y.size <= x.off \/ x.off + x.size <= y.off) := fun c hc o ho => by
  obtain ⟨y, hy, ey, hyu, _⟩ := hM.ls.mem c hc o ho; have hy' := hy; rw [hb] at hy; rcases List.mem_append.1 hy with hy | hy
  · exact ⟨y, .inl hy, hy', ey, .inl (tA y hy)⟩
  · rcases List.mem_cons.1 hy with rfl | hy
    · rw [hu] at hyu; cases hyu
    · exact ⟨y, .inr hy, hy', ey, .inr (tB y hy)⟩
 have L1 : Lists (abJ bs y1) (A ++ y1 :: B) H.lists := by
  refine hM.ls.set (by omega) (by omega) (by omega) (by rw [z1]; exact hs) (fun y hy => ?_) fun c hc o ho => ?_
  · rcases List.mem_append.1 hy with hy | hy
    · exact .inr ⟨by rw [hb]; simp [hy], .inl (by have := tA y hy; omega)⟩
    · rcases List.mem_cons.1 hy with rfl | hy
      · exact .inl rfl
      · exact .inr ⟨by rw [hb]; simp [hy], .inr (by have := tB y hy; omega)⟩
  · obtain ⟨y, hy, hyP, ey, hd⟩ := hL c hc o ho; exact ⟨y, by rcases hy with hy | hy <;> simp [hy], hyP, ey, by omega⟩
 have L2 : Lists (abJ (abJ bs y1) y2) ((A ++ [y1]) ++ y2 :: B) H.lists := by
  refine L1.set (by omega) (by omega) (by omega) (by rw [z2]; exact hs2) (fun y hy => ?_) fun c hc o ho => ?_
  · rcases List.mem_append.1 hy with hy | hy
    · rcases List.mem_append.1 hy with hy | hy
      · exact .inr ⟨by simp [hy], .inl (by have := tA y hy; omega)⟩
      · rw [List.mem_singleton] at hy; exact .inr ⟨by simp [hy], .inl (by rw [hy]; omega)⟩
    · rcases List.mem_cons.1 hy with rfl | hy
      · exact .inl rfl
      · exact .inr ⟨by simp [hy], .inr (by have := tB y hy; omega)⟩
  · obtain ⟨y, hy, hyP, ey, hd⟩ := hL c hc o ho; exact ⟨y, by rcases hy with hy | hy <;> simp [hy], by rcases hy with hy | hy <;> simp [hy], ey, by omega⟩
 refine ⟨s1, s2, l1, l2, hblk, ?_, fun z hz hzx i hi => ?_, fun i hi => ?_⟩
 · have M : Md (abJ (abJ bs y1) y2) (((H.use A.length true).size A.length s).put (A.length + 1) y2) := by
    refine ⟨?_, by rw [hblk]; exact L2, ?_, by rw [l2]; exact hM.len⟩
    · rw [hblk, l2, List.append_assoc, aaS]; rw [aaS] at ht; obtain ⟨q1, q2, _⟩ := ht; refine ⟨q1, by omega, by rw [z1]; exact hs, by omega, by rw [z2]; exact hs2, ?_⟩; rw [<- q2, show x.off + y1.size + y2.size = x.off + x.size by omega]; exact t3
    · rw [abD (by rw [z2]; exact hs2) (by omega) _ (by omega), abD (by rw [z1]; exact hs) (by omega) _ (by omega)]; exact hM.hi
   refine M.rt (fun c hc o ho => ?_) ?_
   · rw [hblk] at ho; obtain ⟨y, hy, ey, hyu, hyc⟩ := abL ho; have hyP : y ∈ H.blks := by
      rw [hb]; rcases List.mem_append.1 hy with hy | hy
      · rcases List.mem_append.1 hy with hy | hy
        · simp [hy]
        · rw [List.mem_singleton] at hy; rw [hy, u1] at hyu; cases hyu
      · rcases List.mem_cons.1 hy with rfl | hy
        · rw [u2] at hyu; cases hyu
        · simp [hy]
     rw [<- ey]; exact hF c hc _ (abr hyP hyu hyc)
   · rw [hblk, abI, abR, abR, aaY, aaY, afg, u1, u2]; rw [hb, abR, aaY, hu] at hadj; simp only [Bool.and_eq_true, Bool.or_true] at hadj ⊢; exact ⟨⟨hadj.1, trivial, rfl⟩, trivial, hadj.2.2⟩
 · obtain ⟨i1, i2⟩ := hi; have hd : z.off + z.size <= x.off \/ x.off + x.size <= z.off := by
    rw [hb] at hz; rcases List.mem_append.1 hz with hz | hz
    · exact .inl (tA z hz)
    · rcases List.mem_cons.1 hz with hz | hz
      · exact absurd hz hzx
      · exact .inr (tB z hz)
   rw [acy (by rw [z2]; exact hs2) (by omega) i (by omega), acy (by rw [z1]; exact hs) (by omega) i (by omega)]
 · obtain ⟨i1, i2⟩ := hi; rw [acy (by rw [z2]; exact hs2) (by omega) i (by omega), acy (by rw [z1]; exact hs) (by omega) i (by omega)]
theorem Rt.uses (h : Rt bs H) (hc : H.cap <= 16384) {A B : List Bk} {x : Bk} (hb : H.blks = A ++ x :: B) (hu : x.used = false) :
 ∃ b1, adR bs (x.off : Int) = some b1 /\ adM b1 (x.off : Int) (x.size : Int) true = some (abJ b1 ⟨x.off, x.size, true⟩) /\ b1.length = bs.length /\ (abJ b1 ⟨x.off, x.size, true⟩).length = bs.length /\
  ((H.out A.length).use A.length true).blks = A ++ ⟨x.off, x.size, true⟩ :: B /\ Rt (abJ b1 ⟨x.off, x.size, true⟩) ((H.out A.length).use A.length true) /\
  ∀ z ∈ H.blks, z.used = true -> ∀ i, Pay z i -> (abJ b1 ⟨x.off, x.size, true⟩)[i]? = bs[i]? := by
 have hM := h.md hc; have hF := h.complete; have hadj : aff true H.blks = true := by rw [<- abI]; exact h.nfree.2.1
 have ht := hM.tl; rw [hb] at ht; obtain ⟨t1, t2, t3, t4, t5, t6, tA, tB⟩ := aeQ ht; have sx := (aac _).1 t2; have hxP : x ∈ H.blks := by rw [hb]; simp
 obtain ⟨c1, c2⟩ := acZ t2; obtain ⟨b1, e1, L1, l1, k1, w1⟩ := hM.ls.takeO (some x) (fun y hy => by
  injection hy with hy; subst hy; exact ⟨hxP, hF _ c2 _ (abr hxP hu c1)⟩)
 obtain ⟨y1, hy1⟩ : ∃ y1 : Bk, y1 = ⟨x.off, x.size, true⟩ := ⟨_, rfl⟩; have o1 : y1.off = x.off := by rw [hy1]
 have z1 : y1.size = x.size := by rw [hy1]
 have u1 : y1.used = true := by rw [hy1]
 have s1 : adM b1 (y1.off : Int) (y1.size : Int) y1.used = some (abJ b1 y1) := aes b1 y1 (by omega) (by omega) (by omega) (by rw [z1]; exact t2); have l2 : (abJ b1 y1).length = b1.length := abw (by rw [z1]; exact t2) (by omega); rw [o1, z1, u1] at s1; rw [<- hy1]; have hblk : ((H.out A.length).use A.length true).blks = A ++ y1 :: B := by
  rw [afh (H := H.out A.length) (A := A) (y := x) (B := B) hb true, hy1]
 have hlst : ((H.out A.length).use A.length true).lists = tkL H.lists x := afi hb; have hdA : ∀ y ∈ A ++ y1 :: B, y = y1 \/ (y ∈ H.blks /\ (y.off + y.size <= y1.off \/ y1.off + y1.size <= y.off)) := fun y hy => by
  rcases List.mem_append.1 hy with hy | hy
  · exact .inr ⟨by rw [hb]; simp [hy], .inl (by have := tA y hy; omega)⟩
  · rcases List.mem_cons.1 hy with rfl | hy
    · exact .inl rfl
    · exact .inr ⟨by rw [hb]; simp [hy], .inr (by have := tB y hy; omega)⟩
 have L2 : Lists (abJ b1 y1) (A ++ y1 :: B) (tkL H.lists x) := by
  refine L1.set (by omega) (by omega) (by omega) (by rw [z1]; exact t2) hdA fun c hc o ho => ?_; have ho : o ∈ tkL H.lists x c := ho; rw [aiC] at ho; obtain ⟨y, hy, ey, hyu, hyc⟩ := hM.ls.mem c hc o ho.1; have hy' := hy; rw [hb] at hy; rcases List.mem_append.1 hy with hy | hy
  · exact ⟨y, by simp [hy], hy', ey, .inl (by have := tA y hy; omega)⟩
  · rcases List.mem_cons.1 hy with rfl | hy
    · exact absurd ey.symm (ho.2 (by omega))
    · exact ⟨y, by simp [hy], hy', ey, .inr (by have := tB y hy; omega)⟩
 refine ⟨b1, e1, s1, l1, l2.trans l1, hblk, ?_, fun z hz hzu i hi => ?_⟩
 · have hi := hM.hi; have M : Md (abJ b1 y1) ((H.out A.length).use A.length true) := by
    refine ⟨?_, by rw [hblk, hlst]; exact L2, ?_, by rw [l2, l1]; exact hM.len⟩
    · rw [hblk, l2, l1, aaS]; rw [aaS] at ht; obtain ⟨q1, q2, q3, q4⟩ := ht; refine ⟨q1, by omega, by rw [z1]; exact t2, ?_⟩; rw [z1]; exact q4
    · rw [abD (by rw [z1]; exact t2) (by omega) _ (by omega)]; omega
   refine M.rt (fun c hc o ho => ?_) ?_
   · rw [hblk] at ho; rw [hlst, aiC]; obtain ⟨y, hy, ey, hyu, hyc⟩ := abL ho; rcases hdA y hy with rfl | ⟨hyP, hd⟩
     · rw [u1] at hyu; cases hyu
     · have := hM.facts y hyP; exact ⟨by rw [<- ey]; exact hF c hc _ (abr hyP hyu hyc), fun _ => by omega⟩
   · rw [hblk, abI, abR, aaY, u1]; rw [hb, abR, aaY, hu] at hadj; simp only [Bool.and_eq_true, Bool.or_true] at hadj ⊢; refine ⟨hadj.1, trivial, ?_⟩; have h2 := hadj.2.2
     cases B with
     | nil => rfl
     | cons y r =>
      rw [aaY] at h2 ⊢; simp only [Bool.and_eq_true, Bool.or_eq_true, Bool.true_or, true_and] at h2 ⊢; exact h2.2
 · have hd : z.off + z.size <= x.off \/ x.off + x.size <= z.off := by
    rcases hM.ls.st.apart z hz x hxP with rfl | hd
    · rw [hu] at hzu; cases hzu
    · exact hd
   have k := k1.pay hM.facts hM.ls.st.apart hz hzu hi; obtain ⟨i1, i2⟩ := hi; rw [acy (by rw [z1]; exact t2) (by omega) i (by omega), k]
theorem Rt.adds (h : Rt bs H) (hc : H.cap <= 16384) {A : List Bk} {p : Option Bk} {o s n : Nat} (hb : H.blks = A ++ p.toList) (hp : ∀ y, p = some y -> y.used = false) (ho : o = 184 + abh A) (hs : aaG (s : Int) = true) (hn : n + abh p.toList = s) (hcap : bs.length + n <= H.cap) :
 ∃ b1, alu (bs ++ List.replicate n 0) p = some b1 /\ adM b1 (o : Int) (s : Int) true = some (abJ b1 ⟨o, s, true⟩) /\ b1.length = bs.length + n /\ (abJ b1 ⟨o, s, true⟩).length = bs.length + n /\
  (∀ H' : Hp, H'.blks = A ++ [⟨o, s, true⟩] -> H'.lists = tkO H.lists p -> H'.cap = H.cap -> Rt (abJ b1 ⟨o, s, true⟩) H') /\
  ∀ z ∈ H.blks, z.used = true -> ∀ i, Pay z i -> (abJ b1 ⟨o, s, true⟩)[i]? = bs[i]? := by
 have hM := h.md hc; have hF := h.complete; have hadj : aff true H.blks = true := by rw [<- abI]; exact h.nfree.2.1
 have ht := hM.tl; rw [hb, aaS, <- ho] at ht; obtain ⟨t1, t2⟩ := ht; have hlen : bs.length = o + abh p.toList := aea _ _ _ t2; have ss := (aac _).1 hs; have hA := (aai _ _ _ t1).2; have hpf : ∀ y, p = some y -> y ∈ H.blks /\ y.off = o := fun y hy => by
  rw [hy] at t2; exact ⟨by rw [hb, hy]; simp, t2.1⟩
 have hlm : (bs ++ List.replicate n (0 : UInt8)).length = bs.length + n := by rw [List.length_append, List.length_replicate]
 have hl0 := hM.ls.len; obtain ⟨b1, e1, L1, l1, k1, w1⟩ := (hM.ls.more n (by omega)).takeO p (fun y hy => by
  have hyP := (hpf y hy).1; obtain ⟨c1, c2⟩ := acZ (hM.ls.st.facts hyP).2.2.2.2.2; exact ⟨hyP, hF _ c2 _ (abr hyP (hp y hy) c1)⟩)
 have o16 : o % 16 = 8 := by
  cases p with
  | none =>
   have e : abU 184 A o := t1; rcases List.eq_nil_or_concat A with e1 | ⟨r, y, e1⟩
   · rw [e1] at ho; have : o = 184 := ho; omega
   · rw [List.concat_eq_append] at e1; have hy := (aai _ _ _ e).2 y (by rw [e1]; simp); rw [e1, aaS] at e; obtain ⟨_, q1, q2, q3⟩ := e; have q3 : 184 + abh r + y.size = o := q3; have := (aac _).1 q2; omega
  | some y =>
   have := hM.ls.st.facts (hpf y rfl).1; have := (hpf y rfl).2; omega
 have o184 : 184 <= o := by omega
 obtain ⟨y1, hy1⟩ : ∃ y1 : Bk, y1 = ⟨o, s, true⟩ := ⟨_, rfl⟩; have o1 : y1.off = o := by rw [hy1]
 have z1 : y1.size = s := by rw [hy1]
 have u1 : y1.used = true := by rw [hy1]
 have hs1 : aaG (y1.size : Int) = true := by rw [z1]; exact hs
 have hle : y1.off + y1.size <= b1.length := by omega
 have s1 : adM b1 (y1.off : Int) (y1.size : Int) y1.used = some (abJ b1 y1) := aes b1 y1 (by omega) (by omega) hle hs1; have l2 : (abJ b1 y1).length = b1.length := abw hs1 hle; rw [o1, z1, u1] at s1; rw [<- hy1]; have hdA : ∀ y ∈ A ++ [y1], y = y1 \/ (y ∈ H.blks /\ y ∈ A /\ (y.off + y.size <= y1.off \/ y1.off + y1.size <= y.off)) := fun y hy => by
  rcases List.mem_append.1 hy with hy | hy
  · exact .inr ⟨by rw [hb]; simp [hy], hy, .inl (by have := hA y hy; omega)⟩
  · exact .inl (by simpa using hy)
 have L2 : Lists (abJ b1 y1) (A ++ [y1]) (tkO H.lists p) := by
  refine L1.set (by omega) (by omega) hle hs1 (fun y hy => (hdA y hy).imp id fun h => ⟨h.1, h.2.2⟩) fun c hc q hq => ?_; rw [adc] at hq; obtain ⟨y, hy, ey, hyu, hyc⟩ := hM.ls.mem c hc q hq.1; have hy' := hy; rw [hb] at hy; rcases List.mem_append.1 hy with hy | hy
  · exact ⟨y, by simp [hy], hy', ey, .inl (by have := hA y hy; omega)⟩
  · obtain ⟨c1, _⟩ := acZ (hM.ls.st.facts hy').2.2.2.2.2; exact absurd ey.symm (hq.2 y (by simpa using hy) (by omega))
 refine ⟨b1, e1, s1, by omega, by omega, fun H' g1 g2 g3 => ?_, fun z hz hzu i hi => ?_⟩
 · have hi := hM.hi; have hi2 : aae (bs ++ List.replicate n (0 : UInt8)) 0 = aae bs 0 := ab9 _ _ _ (by omega); have M : Md (abJ b1 y1) H' := by
    refine ⟨?_, by rw [g1, g2]; exact L2, ?_, by rw [g3]; omega⟩
    · rw [g1, aaS, <- ho]; exact ⟨t1, o1, hs1, by show o + y1.size = _; omega⟩
    · rw [abD hs1 hle _ (by omega)]; omega
   refine M.rt (fun c hc q hq => ?_) ?_
   · rw [g1] at hq; rw [g2, adc]; obtain ⟨y, hy, ey, hyu, hyc⟩ := abL hq; rcases hdA y hy with rfl | ⟨hyP, hyA, hd⟩
     · rw [u1] at hyu; cases hyu
     · have := hM.facts y hyP; refine ⟨by rw [<- ey]; exact hF c hc _ (abr hyP hyu hyc), fun z hz _ => ?_⟩; have := (hpf z hz).2; have := hA y hyA; omega
   · rw [g1, abI, abR, aaY, u1]; rw [hb, abR] at hadj; simp only [Bool.and_eq_true, Bool.or_true] at hadj ⊢; exact ⟨hadj.1, trivial, rfl⟩
 · have hzf := hM.facts z hz; have hzA : z ∈ A := by
    rw [hb] at hz; rcases List.mem_append.1 hz with hz | hz
    · exact hz
    · have := hp z (by simpa using hz); rw [hzu] at this; cases this
   have hd := hA z hzA; have k := k1.pay hM.facts hM.ls.st.apart hz hzu hi; obtain ⟨i1, i2⟩ := hi; rw [acy hs1 hle i (by omega), k, aeP _ _ _ (by omega)]
theorem afY (hg : ∀ x ∈ H.blks, abt bs (x.off : Int) = some x) (s : Nat) : ∀ L : List Nat, (∀ o ∈ L, ∃ i, atB (o : Int) H.blks = some i) -> L.find? (fun o => decide ((s : Int) <= (szB bs o : Int))) = (acw H.blks s L).map fun i => (aag H.blks i).off
 | [], _ => rfl
 | o :: r, hL => by
  obtain ⟨i, hi⟩ := hL o (by simp); obtain ⟨h1, h2⟩ := abs hi; have h2 : (aag H.blks i).off = o := by omega
  have hz : szB bs o = (aag H.blks i).size := by
   rw [<- h2]; exact anO (hg _ (List.mem_of_getElem? (aax h1)))
  have ih := afY hg s r fun q hq => hL q (by simp [hq]); unfold acw; rw [hi]; dsimp only; by_cases hle : s <= (aag H.blks i).size
  · rw [List.find?_cons_of_pos (by rw [hz]; exact decide_eq_true (by omega)), if_pos hle, Option.map_some, h2]
  · rw [List.find?_cons_of_neg (by rw [hz]; simp; omega), if_neg hle]; exact ih
theorem Rt.findsC (h : Rt bs H) (s : Nat) : ∀ k c, c + k = 22 -> afu bs (s : Int) k c = some (((H.findC s k c).map fun i => (aag H.blks i).off).getD 0)
 | 0, _, _ => rfl
 | k + 1, c, hc => by
  unfold afu Hp.findC; rw [h.all_ c (by omega)]; dsimp only; rw [afY (aaq h.walk).2.2 s (H.lists c) (h.listed c (by omega))]
  cases acw H.blks s (H.lists c) with
  | none => exact h.findsC s k (c + 1) (by omega)
  | some i => rfl
theorem Rt.finds (h : Rt bs H) {s : Nat} (hs : aaG (s : Int) = true) : akN bs (s : Int) = some (((H.find s).map fun i => (aag H.blks i).off).getD 0) := by
 unfold akN Hp.find; refine h.findsC s _ _ ?_; obtain ⟨c, h1, h2⟩ := abb (x := ⟨0, s, false⟩) hs; have h1 : aar (s : Int) = (c : Int) := h1; omega
end
end Go.Proofs.YtnicenfdlfffpaaGreatDoor
