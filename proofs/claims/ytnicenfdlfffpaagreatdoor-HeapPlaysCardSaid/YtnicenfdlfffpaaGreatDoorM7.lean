/- Texts of mine, joined. -/
import Derived.WalkKit
import Derived.LaidEql
import Derived.Stop.Asserts
import Derived.Test.YtnicenfdlfffpaaGreatDoorM6
set_option maxRecDepth 100000
set_option maxHeartbeats 4000000
namespace Go.Proofs.YtnicenfdlfffpaaGreatDoor
section
variable {bs : List UInt8} {H : Hp}
theorem Rt.mid (h : Rt bs H) (hc : H.cap <= 16384) {A B : List Bk} {x : Bk} (hb : H.blks = A ++ x :: B) : (∀ y ∈ A, 32 <= y.size /\ y.off + y.size <= x.off) /\ (∀ y ∈ B, x.off + x.size <= y.off) /\ aaG (x.size : Int) = true /\ 184 <= x.off /\ 32 <= x.size /\ x.off + x.size <= bs.length := by
 have hM := h.md hc; have ht := hM.tl; rw [hb] at ht; obtain ⟨_, t2, _, _, t5, t6, tA, tB⟩ := aeQ ht; have hf := hM.facts; have hx := hf x (by rw [hb]; simp); exact ⟨fun y hy => ⟨(hf y (by rw [hb]; simp [hy])).2, tA y hy⟩, tB, t2, t5, hx.2, t6⟩
theorem Rt.gave (h : Rt bs H) (hc : H.cap <= 16384) {A1 B1 : List Bk} {p n : Option Bk} {x : Bk} (hb : H.blks = (A1 ++ p.toList) ++ x :: (n.toList ++ B1)) (hN : aiz A1 p n B1) {out : List UInt8}
 (hP : ∀ z ∈ H.blks, z.used = true -> z ≠ x -> ∀ i, Pay z i -> out[i]? = bs[i]?) : Held H bs (H.give (A1 ++ p.toList).length) out := by
 intro z hz hzu y hy hyu e i i1 i2 i3; obtain ⟨tA, tB, _, _, t5, _⟩ := h.mid hc hb; obtain ⟨gb, _⟩ := aiB hb hN; by_cases hzx : z = x
 · exfalso; subst hzx; rw [gb] at hy; rcases List.mem_append.1 hy with hy | hy
   · have := tA y (by simp [hy]); omega
   · rcases List.mem_cons.1 hy with rfl | hy
     · cases hyu
     · have := tB y (by simp [hy]); omega
 · exact hP z hz hzu hzx i ⟨i1, i2⟩
theorem Rt.cutting (h : Rt bs H) (hc : H.cap <= 16384) {A B : List Bk} {xo xs : Nat} (hb : H.blks = A ++ ⟨xo, xs, true⟩ :: B) {s : Nat} (hs : aaG (s : Int) = true) (hle : s + 32 <= xs) :
 ∃ (b1 b2 : List UInt8) (H1 : Hp) (A1 B1 : List Bk) (p n : Option Bk), adM bs (xo : Int) (s : Int) true = some b1 /\ adM b1 ((xo + s : Nat) : Int) ((xs - s : Nat) : Int) true = some b2 /\ b1.length = bs.length /\ b2.length = bs.length /\
  H1.cap = H.cap /\ Rt b2 H1 /\ H1.blks = (A1 ++ p.toList) ++ ⟨xo + s, xs - s, true⟩ :: (n.toList ++ B1) /\ aiz A1 p n B1 /\ H1.give (A1 ++ p.toList).length = H.cut A.length s /\
  ∀ out : List UInt8, (∀ z ∈ H1.blks, z.used = true -> z ≠ ⟨xo + s, xs - s, true⟩ -> ∀ i, Pay z i -> out[i]? = b2[i]?) -> Held H bs (H.cut A.length s) out /\ ∀ z ∈ H.blks, z.used = true -> z.off ≠ xo -> ∀ i, Pay z i -> out[i]? = bs[i]? := by
 obtain ⟨s1, s2, l1, l2, hblk, hR1, P1, P2⟩ := h.cuts hc hb rfl hs hle; obtain ⟨tA, tB, _, t4, t5, _⟩ := h.mid hc hb; dsimp only at s1 s2 l1 l2 hblk hR1 P1 P2 tA tB t4 t5; have q := (aac _).1 hs; obtain ⟨H1, hH1⟩ := nmE (((H.use A.length true).size A.length s).put (A.length + 1) ⟨xo + s, xs - s, true⟩); rw [hH1] at hblk hR1; obtain ⟨A1, p, n, B1, eA, eB, hN⟩ := aiA (A ++ [⟨xo, s, true⟩]) B; have hlen : (A1 ++ p.toList).length = A.length + 1 := by rw [<- eA]; simp
 have hbx : aag H.blks A.length = ⟨xo, xs, true⟩ := by rw [hb, adq]
 have hcut : H1.give (A1 ++ p.toList).length = H.cut A.length s := by
  unfold Hp.cut; rw [hbx]; dsimp only; rw [if_neg (by omega), hH1, hlen]
 have hb1 : H1.blks = (A1 ++ p.toList) ++ ⟨xo + s, xs - s, true⟩ :: (n.toList ++ B1) := by rw [hblk, eA, eB]
 refine ⟨_, _, H1, A1, B1, p, n, s1, s2, l1, l2, by rw [<- hH1]; rfl, hR1, hb1, hN, hcut, fun out hP => ?_⟩; have hz : ∀ z ∈ H.blks, z.used = true -> z.off ≠ xo -> ∀ i, Pay z i -> out[i]? = bs[i]? := fun z hz hzu hzo i hi => by
  have hne : z ≠ ⟨xo, xs, true⟩ := fun e => hzo (by rw [e]); rw [<- P1 z hz hne i hi]; rw [hb] at hz; rcases List.mem_append.1 hz with hz | hz
  · have := tA z hz; exact hP z (by rw [hblk]; simp [hz]) hzu (fun e => by rw [e] at this; dsimp only at this; omega) i hi
  · rcases List.mem_cons.1 hz with hz | hz
    · exact absurd hz hne
    · have := tB z hz; exact hP z (by rw [hblk]; simp [hz]) hzu (fun e => by rw [e] at this; dsimp only at this; omega) i hi
 refine ⟨fun z hzm hzu y hy hyu e i i1 i2 i3 => ?_, hz⟩; by_cases hzo : z.off = xo
 · rw [<- hcut] at hy; obtain ⟨gb, _⟩ := aiB hb1 hN; rw [gb] at hy; have hy1 : y = ⟨xo, s, true⟩ := by
    rcases List.mem_append.1 hy with hy | hy
    · have hy : y ∈ A ++ [⟨xo, s, true⟩] := by rw [eA]; simp [hy]
      rcases List.mem_append.1 hy with hy | hy
      · have := tA y hy; omega
      · simpa using hy
    · rcases List.mem_cons.1 hy with rfl | hy
      · cases hyu
      · have hy : y ∈ B := by rw [eB]; simp [hy]
        have := tB y hy; omega
   subst hy1; dsimp only at i3 e; rw [<- P2 i ⟨by dsimp only; omega, i3⟩]; exact hP ⟨xo, s, true⟩ (by rw [hblk]; simp) rfl (fun e => by injection e with e1 e2; omega) i ⟨by dsimp only; omega, i3⟩
 · exact hz z hzm hzu hzo i ⟨i1, i2⟩
theorem Rt.uncut (h : Rt bs H) {A B : List Bk} {xo xs : Nat} (hb : H.blks = A ++ ⟨xo, xs, true⟩ :: B) {s : Nat} (hlt : xs < s + 32) : Rt bs (H.cut A.length s) /\ Held H bs (H.cut A.length s) bs := by
 have hbx : aag H.blks A.length = ⟨xo, xs, true⟩ := by rw [hb, adq]
 have hcut : H.cut A.length s = H.use A.length true := by
  unfold Hp.cut; rw [hbx]; dsimp only; rw [if_pos (by omega)]
 refine ⟨?_, fun _ _ _ _ _ _ _ _ _ _ _ => rfl⟩; rw [hcut]; refine h.congr ?_ rfl rfl; rw [afh hb true, hb]
end
theorem aoJ {H : Hp} {i : Nat} (hi : i < H.blks.length) : (H.use i true).use i true = H.use i true := by
 have e : aag (H.use i true).blks i = { aag H.blks i with used := true } := by
  show aag (H.blks.set i _) i = _; rw [aa3 _ _ _ _ hi, if_pos rfl]
 unfold Hp.use at e ⊢; dsimp only at e ⊢; rw [e, List.set_set]
theorem aoK {H : Hp} {i s : Nat} (hi : i < H.blks.length) : (H.use i true).cut i s = H.cut i s := by
 have e : aag (H.use i true).blks i = { aag H.blks i with used := true } := by
  show aag (H.blks.set i _) i = _; rw [aa3 _ _ _ _ hi, if_pos rfl]
 unfold Hp.cut; rw [e, aoJ hi]
theorem aj3 (r : List Bk) (y : Bk) : abk (r ++ [y]) = if y.used = true then 0 else y.size := by
 have e : aag (r ++ [y]) ((r ++ [y]).length - 1) = y := by
  rw [show (r ++ [y]).length - 1 = r.length by simp]; exact adq r y []
 unfold abk; rw [if_neg (by simp), e]
section
variable {bs : List UInt8} {H : Hp}
theorem Rt.tail (h : Rt bs H) (hc : H.cap <= 16384) : ∃ A p, H.blks = A ++ p.toList /\ (∀ y, p = some y -> y.used = false) /\ frO (abT bs (bs.length : Int)) = p /\ abk H.blks = abh p.toList := by
 have hM := h.md hc; have hb : H.blks = H.blks ++ [] := by simp
 rcases hM.ends hb (o := bs.length) h.lenE.symm with ⟨e1, e2⟩ | ⟨r, y, e1, e2⟩
 · refine ⟨[], none, e1, fun y hy => (by cases hy), ?_, ?_⟩
   · rw [e2]; rfl
   · rw [e1]; rfl
 · have e3 := aj3 r y
   cases hu : y.used with
   | true =>
    rw [hu, if_pos rfl] at e3; refine ⟨H.blks, none, by simp, fun y hy => (by cases hy), ?_, by rw [e1, e3]; rfl⟩; rw [e2]; show (if y.used = true then none else some y) = none; rw [hu, if_pos rfl]
   | false =>
    rw [hu, if_neg (by simp)] at e3; refine ⟨r, some y, e1, ?_, ?_, by rw [e1, e3]; simp [abh]⟩
    · intro z hz
      cases hz; exact hu
    rw [e2]; show (if y.used = true then none else some y) = some y; rw [hu, if_neg (by simp)]
theorem am1 {s i : Nat} (hf : H.find s = some i) : H.take s = (some (aag H.blks i).off, (H.out i).cut i s) := by
 unfold Hp.take; rw [hf]
theorem alv {s : Nat} (hf : H.find s = none) (hcap : H.cap < lenB H.blks + s - abk H.blks) : H.take s = (none, H) := by
 unfold Hp.take; rw [hf]; dsimp only; rw [if_pos hcap]
theorem am2 {s : Nat} (hf : H.find s = none) (hcap : ¬ H.cap < lenB H.blks + s - abk H.blks) {A : List Bk} {p : Option Bk} (hb : H.blks = A ++ p.toList) (ht : abk H.blks = abh p.toList)
 (hp : ∀ y, p = some y -> y.off = 184 + abh A /\ 0 < y.size) : ∃ H', H.take s = (some (184 + abh A), H') /\ H'.blks = A ++ [⟨184 + abh A, s, true⟩] /\ H'.lists = tkO H.lists p /\ H'.cap = H.cap := by
 refine ⟨(H.take s).2, ?_, ?_, ?_, ?_⟩
 · have : (H.take s).1 = some (184 + abh A) := by
    unfold Hp.take; rw [hf]; dsimp only; rw [if_neg hcap]
    cases p with
    | none =>
     have e : abk H.blks = 0 := ht; rw [e, if_neg (by omega)]; rw [hb]; simp [lenB]
    | some y =>
     have e : abk H.blks = y.size := by rw [ht]; simp [abh]
     obtain ⟨h1, h2⟩ := hp y rfl; rw [e, if_pos h2]; have e2 : H.blks.length - 1 = A.length := by rw [hb]; simp
     rw [e2, hb]; show some (aag (A ++ y :: []) A.length).off = _; rw [adq, h1]
   rw [<- this]
 · unfold Hp.take; rw [hf]; dsimp only; rw [if_neg hcap]
   cases p with
   | none =>
    have e : abk H.blks = 0 := ht; rw [e, if_neg (by omega)]; have hb' : H.blks = A := by rw [hb]; simp
    show H.blks.take H.blks.length ++ _ :: H.blks.drop H.blks.length = _; rw [List.take_length, List.drop_length, hb']; rfl
   | some y =>
    have e : abk H.blks = y.size := by rw [ht]; simp [abh]
    obtain ⟨h1, h2⟩ := hp y rfl; rw [e, if_pos h2]; have e2 : H.blks.length - 1 = A.length := by rw [hb]; simp
    rw [e2]; have hb2 : (H.out A.length).blks = A ++ y :: [] := hb; have := afh (ajB hb2 s) true; show (((H.out A.length).size A.length s).use A.length true).blks = _; rw [this, <- h1]
 · unfold Hp.take; rw [hf]; dsimp only; rw [if_neg hcap]
   cases p with
   | none =>
    have e : abk H.blks = 0 := ht; rw [e, if_neg (by omega)]; rfl
   | some y =>
    have e : abk H.blks = y.size := by rw [ht]; simp [abh]
    obtain ⟨h1, h2⟩ := hp y rfl; rw [e, if_pos h2]; have e2 : H.blks.length - 1 = A.length := by rw [hb]; simp
    rw [e2]; show (H.out A.length).lists = _; rw [afi hb]; rfl
 · exact take_cap
theorem Rt.usedHeld (h : Rt bs H) (hc : H.cap <= 16384) {A B : List Bk} {xo xs : Nat} (hb : H.blks = A ++ ⟨xo, xs, false⟩ :: B) {b2 out : List UInt8} {H2 H3 : Hp} (hb2 : H2.blks = A ++ ⟨xo, xs, true⟩ :: B)
 (h1 : ∀ z ∈ H.blks, z.used = true -> ∀ i, Pay z i -> b2[i]? = bs[i]?) (h2 : ∀ z ∈ H2.blks, z.used = true -> z.off ≠ xo -> ∀ i, Pay z i -> out[i]? = b2[i]?) : Held H bs H3 out := by
 intro z hz hzu y _ _ _ i i1 i2 _; have hp : Pay z i := ⟨i1, i2⟩; obtain ⟨tA, tB, _, t4, t5, _⟩ := h.mid hc hb; dsimp only at tA tB t4 t5; rw [<- h1 z hz hzu i hp]; rw [hb] at hz; rcases List.mem_append.1 hz with hz | hz
 · have := tA z hz; exact h2 z (by rw [hb2]; simp [hz]) hzu (by omega) i hp
 · rcases List.mem_cons.1 hz with hz | hz
   · rw [hz] at hzu; cases hzu
   · have := tB z hz; exact h2 z (by rw [hb2]; simp [hz]) hzu (by omega) i hp
end
theorem alw {l : List Bk} (h : aff false l = true) : aff true l = true := by
 cases l with
 | nil => rfl
 | cons y r =>
  rw [aaY, Bool.false_or, Bool.and_eq_true] at h; rw [aaY, Bool.true_or, Bool.true_and]; exact h.2
section
variable {bs : List UInt8} {H : Hp}
theorem agN {A B1 : List Bk} {n : Option Bk} {xo xs : Nat} (hb : H.blks = A ++ ⟨xo, xs, true⟩ :: (n.toList ++ B1)) (hf : ∀ y, n = some y -> y.used = false) (hu : n = none -> ∀ y r, B1 = y :: r -> y.used = true) :
 (H.widen A.length).blks = A ++ ⟨xo, xs + (n.map Bk.size).getD 0, true⟩ :: B1 /\ (H.widen A.length).lists = tkO H.lists n /\ aa1 H.blks A.length = xs + (n.map Bk.size).getD 0 /\ aaH H.blks A.length = n.isSome := by
 have hbk : aag H.blks A.length = ⟨xo, xs, true⟩ := by rw [hb, adq]
 have hi : A.length < H.blks.length := by rw [hb]; simp
 cases n with
 | none =>
  have hn : aaH H.blks A.length = false := by
   rw [hb, afj]
   cases B1 with
   | nil => rfl
   | cons y r =>
    show (!y.used) = false; rw [hu rfl y r rfl]; rfl
  have e := acT hn; rw [hbk] at e; refine ⟨?_, ?_, e, by rw [hn]; rfl⟩
  · rw [(aex hn hi).1, hb]; rfl
  · unfold Hp.widen; rw [aeu hn]; rfl
 | some m =>
  have hm := hf m rfl; have hn : aaH H.blks A.length = true := by
   rw [hb, afj]; show (!m.used) = true; rw [hm]; rfl
  have e := acx hn; have hbk1 : aag H.blks (A.length + 1) = m := by rw [hb]; exact aiy A _ m B1
  rw [hbk, hbk1] at e; refine ⟨?_, ?_, e, by rw [hn]; rfl⟩
  · rw [(aew hn).1]; exact agM (H := H.out (A.length + 1)) (y := ⟨xo, xs, true⟩) (z := m) hb
  · have hb' : H.blks = (A ++ [⟨xo, xs, true⟩]) ++ m :: B1 := by rw [hb]; simp
    have := afi hb'; rw [List.length_append, List.length_singleton] at this; unfold Hp.widen; rw [adb hn]; exact this
theorem Rt.wide (h : Rt bs H) (hc : H.cap <= 16384) {A B1 : List Bk} {n : Option Bk} {xo xs n0 t : Nat} (hb : H.blks = A ++ ⟨xo, xs, true⟩ :: (n.toList ++ B1)) (hf : ∀ y, n = some y -> y.used = false)
 (ht : t = xs + (n.map Bk.size).getD 0 + n0) (hend : n0 = 0 \/ B1 = []) (hs : aaG (t : Int) = true) (hcap : bs.length + n0 <= H.cap) :
 ∃ b1, alu (bs ++ List.replicate n0 0) n = some b1 /\ adM b1 (xo : Int) (t : Int) true = some (abJ b1 ⟨xo, t, true⟩) /\ b1.length = bs.length + n0 /\ (abJ b1 ⟨xo, t, true⟩).length = bs.length + n0 /\
  (∀ H' : Hp, H'.blks = A ++ ⟨xo, t, true⟩ :: B1 -> H'.lists = tkO H.lists n -> H'.cap = H.cap -> Rt (abJ b1 ⟨xo, t, true⟩) H') /\
  (∀ z ∈ H.blks, z.used = true -> z.off ≠ xo -> ∀ i, Pay z i -> (abJ b1 ⟨xo, t, true⟩)[i]? = bs[i]?) /\ ∀ i, Pay ⟨xo, xs, true⟩ i -> (abJ b1 ⟨xo, t, true⟩)[i]? = bs[i]? := by
 have hM := h.md hc; have hF := h.complete; have hadj : aff true H.blks = true := by rw [<- abI]; exact h.nfree.2.1
 have htl := hM.tl; rw [hb] at htl; obtain ⟨t1, t2, t3, t4, t5, t6, tA, tB⟩ := aeQ htl; dsimp only at t1 t2 t3 t4 t5 t6 tA tB; rw [aaS] at t3; obtain ⟨t7, t8⟩ := t3; have hl0 := hM.ls.len; have ss := (aac _).1 hs; have sx := (aac _).1 t2; have hnz : (n.map Bk.size).getD 0 = abh n.toList := by cases n <;> simp [abh]
 have hB1 := (aai _ _ _ t8).2; have hle8 := (aai _ _ _ t8).1; have hlm : (bs ++ List.replicate n0 (0 : UInt8)).length = bs.length + n0 := by rw [List.length_append, List.length_replicate]
 have hnm : ∀ y, n = some y -> y ∈ H.blks /\ xo + xs <= y.off /\ y.off + y.size <= xo + xs + abh n.toList := fun y hy => by
  rw [hy] at t7; obtain ⟨a, _, _⟩ := t7; refine ⟨by rw [hb, hy]; simp, by omega, ?_⟩; rw [hy]; simp [abh]; omega
 obtain ⟨b1, e1, L1, l1, k1, w1⟩ := (hM.ls.more n0 (by omega)).takeO n (fun y hy => by
  have hyP := (hnm y hy).1; obtain ⟨c1, c2⟩ := acZ (hM.ls.st.facts hyP).2.2.2.2.2; exact ⟨hyP, hF _ c2 _ (abr hyP (hf y hy) c1)⟩)
 obtain ⟨y1, hy1⟩ : ∃ y1 : Bk, y1 = ⟨xo, t, true⟩ := ⟨_, rfl⟩; have o1 : y1.off = xo := by rw [hy1]
 have z1 : y1.size = t := by rw [hy1]
 have u1 : y1.used = true := by rw [hy1]
 have hs1 : aaG (y1.size : Int) = true := by rw [z1]; exact hs
 have hendl : xo + xs + abh n.toList <= bs.length /\ (n0 = 0 \/ xo + xs + abh n.toList = bs.length) := by
  refine ⟨hle8, hend.imp id fun e => ?_⟩; rw [e] at t8; exact t8
 have hle : y1.off + y1.size <= b1.length := by omega
 have s1 : adM b1 (y1.off : Int) (y1.size : Int) y1.used = some (abJ b1 y1) := aes b1 y1 (by omega) (by omega) hle hs1; have l2 : (abJ b1 y1).length = b1.length := abw hs1 hle; rw [o1, z1, u1] at s1; rw [<- hy1]; have inB : ∀ y ∈ B1, y1.off + y1.size <= y.off := fun y hy => by
  rcases hend with e | e
  · have := (hB1 y hy).1; omega
  · rw [e] at hy; cases hy
 have hdA : ∀ y ∈ A ++ y1 :: B1, y = y1 \/ (y ∈ H.blks /\ (y.off + y.size <= y1.off \/ y1.off + y1.size <= y.off)) := fun y hy => by
  rcases List.mem_append.1 hy with hy | hy
  · exact .inr ⟨by rw [hb]; simp [hy], .inl (by have := tA y hy; omega)⟩
  · rcases List.mem_cons.1 hy with rfl | hy
    · exact .inl rfl
    · exact .inr ⟨by rw [hb]; simp [hy], .inr (inB y hy)⟩
 have L2 : Lists (abJ b1 y1) (A ++ y1 :: B1) (tkO H.lists n) := by
  refine L1.set (by omega) (by omega) hle hs1 hdA fun c hc q hq => ?_; rw [adc] at hq; obtain ⟨y, hy, ey, hyu, hyc⟩ := hM.ls.mem c hc q hq.1; have hy' := hy; rw [hb] at hy; rcases List.mem_append.1 hy with hy | hy
  · exact ⟨y, by simp [hy], hy', ey, .inl (by have := tA y hy; omega)⟩
  · rcases List.mem_cons.1 hy with rfl | hy
    · cases hyu
    · rcases List.mem_append.1 hy with hy | hy
      · obtain ⟨c1, _⟩ := acZ (hM.ls.st.facts hy').2.2.2.2.2; exact absurd ey.symm (hq.2 y (by simpa using hy) (by omega))
      · exact ⟨y, by simp [hy], hy', ey, .inr (inB y hy)⟩
 refine ⟨b1, e1, s1, by omega, by omega, fun H' g1 g2 g3 => ?_, fun z hz hzu hzo i hi => ?_, fun i hi => ?_⟩
 · have hi := hM.hi; have hi2 : aae (bs ++ List.replicate n0 (0 : UInt8)) 0 = aae bs 0 := ab9 _ _ _ (by omega); have M : Md (abJ b1 y1) H' := by
    refine ⟨?_, by rw [g1, g2]; exact L2, ?_, by rw [g3]; omega⟩
    · rw [g1, aaS]; have q0 : xo = 184 + abh A := aea _ _ _ t1; rw [<- q0]; refine ⟨t1, o1, hs1, ?_⟩; rw [l2, l1, hlm, z1]; rcases hend with e | e
      · rw [show xo + t = xo + xs + abh n.toList by omega, show bs.length + n0 = bs.length by omega]; exact t8
      · rw [e]; show xo + t = bs.length + n0; have := hendl.2; rw [e] at t8; have t8 : xo + xs + abh n.toList = bs.length := t8; omega
    · rw [abD hs1 hle _ (by omega)]; omega
   refine M.rt (fun c hc q hq => ?_) ?_
   · rw [g1] at hq; rw [g2, adc]; obtain ⟨y, hy, ey, hyu, hyc⟩ := abL hq; rcases hdA y hy with rfl | ⟨hyP, hd⟩
     · rw [u1] at hyu; cases hyu
     · have := hM.facts y hyP; refine ⟨by rw [<- ey]; exact hF c hc _ (abr hyP hyu hyc), fun z hz _ => ?_⟩; have := hnm z hz; have := hM.facts z (hnm z hz).1; omega
   · rw [g1, abI, abR, aaY, u1]; rw [hb, abR, aaY] at hadj; simp only [Bool.and_eq_true, Bool.or_true] at hadj ⊢; refine ⟨hadj.1, trivial, ?_⟩; have h2 := hadj.2.2
     cases n with
     | none => exact h2
     | some m =>
      have hm := hf m rfl; have h2 : aff true (m :: B1) = true := h2; rw [aaY, hm, Bool.and_eq_true] at h2; exact alw h2.2
 · have hd : z.off + z.size <= y1.off \/ y1.off + y1.size <= z.off := by
    rw [hb] at hz; rcases List.mem_append.1 hz with hz | hz
    · exact .inl (by have := tA z hz; omega)
    · rcases List.mem_cons.1 hz with rfl | hz
      · exact absurd rfl hzo
      · rcases List.mem_append.1 hz with hz | hz
        · have := hf z (by simpa using hz); rw [hzu] at this; cases this
        · exact .inr (inB z hz)
   have hzf := hM.ls.st.facts hz; have k := k1.pay hM.facts hM.ls.st.apart hz hzu hi; obtain ⟨i1, i2⟩ := hi; rw [acy hs1 hle i (by omega), k, aeP _ _ _ (by omega)]
 · have hxP : (⟨xo, xs, true⟩ : Bk) ∈ H.blks := by rw [hb]; simp
   have k := k1.pay hM.facts hM.ls.st.apart hxP rfl hi; obtain ⟨i1, i2⟩ := hi; dsimp only at i1 i2; have hzf := hM.ls.st.facts hxP; dsimp only at hzf; rw [acy hs1 hle i (by omega), k, aeP _ _ _ (by omega)]
end
open Go.RowKit
inductive QT where
 | fin : QT
 | one : Nat -> QT -> QT
 | two : Nat -> QT -> Nat -> QT -> QT
 | three : Nat -> QT -> Nat -> QT -> Nat -> QT -> QT
section
variable {P : Program} {ops : Array Oper} {Q : Exit -> Act -> World -> Prop} {T : List Nat}
def aiD (T : List Nat) : QT -> Nat
 | .fin => T.length
 | .one _ q => 1 + aiD T q
 | .two _ q _ _ => 1 + aiD T q
 | .three _ q _ _ _ _ => 1 + aiD T q
def afk (ops : Array Oper) (T : List Nat) : Array Bool -> QT -> Bool
 | l, .fin => aon ops l T
 | l, .one i q => Region.ready .any ops l == [i] && (!mv ops i && afk ops T (l.setIfInBounds i true) q)
 | l, .two i q j r => Region.ready .any ops l == [i, j] && (!mv ops i && (!mv ops j && (aiD T q == aiD T r && (afk ops T (l.setIfInBounds i true) q && afk ops T (l.setIfInBounds j true) r))))
 | l, .three i q j r k s => Region.ready .any ops l == [i, j, k] && (!mv ops i && (!mv ops j && (!mv ops k && (aiD T q == aiD T r && (aiD T q == aiD T s && (afk ops T (l.setIfInBounds i true) q && (afk ops T (l.setIfInBounds j true) r && afk ops T (l.setIfInBounds k true) s)))))))
def wpQ (P : Program) (ops : Array Oper) (Q : Exit -> Act -> World -> Prop) (T : List Nat) (B : Nat) : QT -> Act -> World -> Prop
 | .fin, a, w => wpList P ops Q (pick ops T) a w
 | .one i q, a, w => wpOp P ops Q i (fun a' w' => Below B w w' /\ wpQ P ops Q T B q a' w') a w
 | .two i q j r, a, w => wpOp P ops Q i (fun a' w' => Below B w w' /\ wpQ P ops Q T B q a' w') a w /\ wpOp P ops Q j (fun a' w' => Below B w w' /\ wpQ P ops Q T B r a' w') a w
 | .three i q j r k s, a, w => wpOp P ops Q i (fun a' w' => Below B w w' /\ wpQ P ops Q T B q a' w') a w /\ wpOp P ops Q j (fun a' w' => Below B w w' /\ wpQ P ops Q T B r a' w') a w /\ wpOp P ops Q k (fun a' w' => Below B w w' /\ wpQ P ops Q T B s a' w') a w
theorem afZ {B n i : Nat} {q : QT} {l : Array Bool} {a : Act} {w : World} (hm : mv ops i = false)
 (ih : ∀ a w, wpQ P ops Q T B q a w -> ab2 P ops Q (Below B w) T n (l.setIfInBounds i true) a w)
 (h : wpOp P ops Q i (fun a' w' => Below B w w' /\ wpQ P ops Q T B q a' w') a w) :
 wpOp P ops Q i (fun a' w' => (i ∉ T -> mv ops i = false -> Below B w w') /\ (mv ops i = true -> w' = w) /\ ab2 P ops Q (Below B w) T n (l.setIfInBounds i true) a' w') a w :=
 wpOp_mono (fun a' w' hh => by
  refine ⟨fun _ _ => hh.1, fun e => ?_, abY (fun w3 h4 => hh.1.trans h4) _ _ _ _ (ih a' w' hh.2)⟩; rw [hm] at e
  cases e) h
theorem acJ (B : Nat) : ∀ (q : QT) (l : Array Bool) (a : Act) (w : World), afk ops T l q = true -> wpQ P ops Q T B q a w -> ab2 P ops Q (Below B w) T (aiD T q) l a w
 | .fin, l, a, w, hc, h => ad5 (fun _ h => h) T l a w (fun _ h => h) hc h
 | .one i q, l, a, w, hc, h => by
  simp only [afk, Bool.and_eq_true, beq_iff_eq, Bool.not_eq_true'] at hc; obtain ⟨h1, m1, c1⟩ := hc; have k := afZ m1 (fun a w => acJ B q _ a w c1) h; show ab2 P ops Q (Below B w) T (1 + aiD T q) l a w; rw [Nat.add_comm]; refine ⟨fun h0 => (by rw [h1] at h0; cases h0), fun j hj => ?_⟩; rw [h1] at hj; obtain rfl : j = i := by simpa using hj
  exact k
 | .two i q j r, l, a, w, hc, h => by
  simp only [afk, Bool.and_eq_true, beq_iff_eq, Bool.not_eq_true'] at hc; obtain ⟨h1, m1, m2, e2, c1, c2⟩ := hc; have k1 := afZ m1 (fun a w => acJ B q _ a w c1) h.1; have k2 := afZ m2 (fun a w => acJ B r _ a w c2) h.2; rw [<- e2] at k2; show ab2 P ops Q (Below B w) T (1 + aiD T q) l a w; rw [Nat.add_comm]; refine ⟨fun h0 => (by rw [h1] at h0; cases h0), fun j' hj => ?_⟩; rw [h1] at hj; rcases List.mem_cons.1 hj with rfl | hj
  · exact k1
  · obtain rfl : j' = j := by simpa using hj
    exact k2
 | .three i q j r k s, l, a, w, hc, h => by
  simp only [afk, Bool.and_eq_true, beq_iff_eq, Bool.not_eq_true'] at hc; obtain ⟨h1, m1, m2, m3, e2, e3, c1, c2, c3⟩ := hc; have k1 := afZ m1 (fun a w => acJ B q _ a w c1) h.1; have k2 := afZ m2 (fun a w => acJ B r _ a w c2) h.2.1; have k3 := afZ m3 (fun a w => acJ B s _ a w c3) h.2.2; rw [<- e2] at k2; rw [<- e3] at k3; show ab2 P ops Q (Below B w) T (1 + aiD T q) l a w; rw [Nat.add_comm]; refine ⟨fun h0 => (by rw [h1] at h0; cases h0), fun j' hj => ?_⟩; rw [h1] at hj; rcases List.mem_cons.1 hj with rfl | hj
  · exact k1
  · rcases List.mem_cons.1 hj with rfl | hj
    · exact k2
    · obtain rfl : j' = k := by simpa using hj
      exact k3
theorem aiE {id : Nat} {a : Act} {w : World} (B : Nat) (rs : List Nat) (q : QT) (T : List Nat) (hm : P.follows .mixedOrders = true) (hsel : Region.noSelect ops = true)
 (hc : (akG ops T (Array.replicate ops.size false) rs && (afk ops T (ajK (Array.replicate ops.size false) rs) q && aiD T q + rs.length == ops.size)) = true)
 (hQ : ∀ c a t v w, Q (.panic c) (Act.put a (some t) v) w -> Q (.panic c) a w)
 (h : wpQuiet P ops (acp B w.drew) (fun a' => wpQ P ops Q T B q a' w.drew) (pick ops rs) a) : (Code.region id ops true).wp P Q a w := by
 simp only [Bool.and_eq_true, beq_iff_eq] at hc; obtain ⟨h1, h2, h3⟩ := hc; have hs := ac3 (T := T) hsel hQ B w.drew _ (aiD T q) rs _ a h1 h (fun a' ha => acJ B q _ a' _ h2 ha); rw [h3] at hs; exact wp_region_any hm (acV _ _ _ _ hs)
theorem apH {B : Nat} {rs : List Nat} {q : QT} {a : Act} {w : World} {l : List Oper} (hl : pick ops rs = l) (h : wpQuiet P ops (acp B w) (fun a' => wpQ P ops Q T B q a' w) l a) : wpQuiet P ops (acp B w) (fun a' => wpQ P ops Q T B q a' w) (pick ops rs) a := by
 subst hl; exact h
theorem aqq {B : Nat} {a : Act} {w : World} {t : List Oper} (ht : pick ops T = t) (h : wpList P ops Q t a w) : wpQ P ops Q T B .fin a w := by
 subst ht; exact h
end
def Ag (S : List Nat) (a0 a : Act) : Prop := ∀ s ∈ S, a.tmps.getD s undef = a0.tmps.getD s undef
theorem Ag.refl (S : List Nat) (a : Act) : Ag S a a := fun _ _ => rfl
theorem Ag.put {S : List Nat} {a0 a : Act} (h : Ag S a0 a) {d : Nat} (hd : d ∉ S) (v : Value) : Ag S a0 (a.put (some d) v) := fun s hs => by
 have hne : d ≠ s := fun e => hd (e ▸ hs); rw [<- h s hs]; simp [Act.put, Array.getElem?_setIfInBounds_ne hne]
theorem adt {x y : Nat} (h : x ≠ y) : ∀ d : Tmp, (some x : Option Tmp) = some d -> (some y : Option Tmp) ≠ some d := fun _ e k => h (Option.some.inj (e.trans k.symm))
def ac1 (p : Nat) : Value := .pointer (some ⟨p, 0, none⟩)
section
variable {P : Program} {ops : Array Oper} {Q : Exit -> Act -> World -> Prop}
def Stp (P : Program) (ops : Array Oper) (Q : Exit -> Act -> World -> Prop) (B : Nat) (w0 : World) (S : List Nat) (a0 : Act) (i d : Nat) (v : Value) : Prop :=
 ∀ (a : Act) (w : World) (K : Act -> World -> Prop), Ag S a0 a -> Below B w0 w -> (∀ w', Below w.heap.size w w' -> K (a.put (some d) v) w') -> wpOp P ops Q i K a w
def Sta (P : Program) (ops : Array Oper) (Q : Exit -> Act -> World -> Prop) (j e : Nat) (cs : Array Value) (ty : TypeId) : Prop :=
 ∀ (a : Act) (w : World) (K : Act -> World -> Prop), K (a.put (some e) (ac1 w.heap.size)) (w.alloc (.cells cs ty)) -> wpOp P ops Q j K a w
theorem ajC {B i d : Nat} {w0 : World} {S : List Nat} {a0 : Act} {v : Value} {f : FuncId} {args : Array Operand} {tys : Array TypeId} {ty : TypeId} {pos : String} {after : Array Edge}
 (hf : ∀ (xs : Array Value) (w : World), (callFunc f xs).run P w = .ok (.enter f xs) w)
 (ho : ops[i]? = some { dst := some d, op := .call { callee := .value (.func f), args := args, argTypes := tys }, type := ty, pos := pos, after := after, guard := none })
 {vs : Array Value} (hvl : ∀ a, Ag S a0 a -> args.toList.map a.eval = vs.toList)
 (hc : ∀ w, Below B w0 w -> Calls P f vs w (fun e w' => e = .returned v /\ Below w.heap.size w w')) : Stp P ops Q B w0 S a0 i d v := by
 intro a w K ha hb hk; have hw : Region.wanted { dst := some d, op := .call { callee := .value (.func f), args := args, argTypes := tys }, type := ty, pos := pos, after := after, guard := none } (yielded ops a.tmps) = true := rfl; unfold wpOp; simp only [ho]; rw [if_pos hw]; refine .inl ?_; have hvs : args.map a.eval = vs := Array.ext' (by simpa using hvl a ha); subst hvs; unfold Oper.wp; rw [execOp_call_go, hf]; simp only [Oper.upon, Array.empty_append, Array.append_empty]; refine (hc w hb).mono fun e w' hh => ?_; obtain ⟨rfl, h1⟩ := hh; exact hk w' h1
theorem ahF {j e : Nat} {o : Oper} {cs : Array Value} {ty : TypeId} (ho : ops[j]? = some o) (hd : o.dst = some e) (hw : ∀ xs, Region.wanted o xs = true)
 (hr : ∀ (ρ : Operand -> Value) (w : World), (execOp ρ o).run P w = .ok (.value (.pointer (some ⟨w.heap.size, 0, none⟩))) (w.alloc (.cells cs ty))) : Sta P ops Q j e cs ty := by
 intro a w K hk; unfold wpOp; simp only [ho]; rw [if_pos (hw _)]; refine .inl ?_; unfold Oper.wp; rw [hr]; show K (a.put o.dst _) _; rw [hd]; exact hk
end
def am3 (_ _ _ _ : Nat) : QT := .fin
def am4 (i1 i2 j1 j2 : Nat) : QT := .one i2 (am3 i1 i2 j1 j2)
def aoL (i1 i2 j1 j2 : Nat) : QT := .one j1 (am3 i1 i2 j1 j2)
def aoM (i1 i2 j1 j2 : Nat) : QT := .one j2 (am3 i1 i2 j1 j2)
def aoN (i1 i2 j1 j2 : Nat) : QT := .one i1 (am4 i1 i2 j1 j2)
def aoO (i1 i2 j1 j2 : Nat) : QT := .two i2 (aoL i1 i2 j1 j2) j1 (am4 i1 i2 j1 j2)
def aoP (i1 i2 j1 j2 : Nat) : QT := .two i2 (aoM i1 i2 j1 j2) j2 (am4 i1 i2 j1 j2)
def apI (i1 i2 j1 j2 : Nat) : QT := .two j1 (aoM i1 i2 j1 j2) j2 (aoL i1 i2 j1 j2)
def apJ (i1 i2 j1 j2 : Nat) : QT := .two i1 (aoO i1 i2 j1 j2) j1 (aoN i1 i2 j1 j2)
def apK (i1 i2 j1 j2 : Nat) : QT := .two i1 (aoP i1 i2 j1 j2) j2 (aoN i1 i2 j1 j2)
def apL (i1 i2 j1 j2 : Nat) : QT := .three i2 (apI i1 i2 j1 j2) j1 (aoP i1 i2 j1 j2) j2 (aoO i1 i2 j1 j2)
def apM (i1 i2 j1 j2 : Nat) : QT := .three i1 (apL i1 i2 j1 j2) j1 (apK i1 i2 j1 j2) j2 (apJ i1 i2 j1 j2)
def apN (i1 i2 j1 j2 : Nat) : QT := apM i1 i2 j1 j2
section
variable {P : Program} {ops : Array Oper} {Q : Exit -> Act -> World -> Prop} {T : List Nat} {B i1 i2 j1 j2 d1 d2 e1 e2 : Nat} {w0 : World} {S : List Nat} {a0 : Act} {v1 v2 : Value} {cs : Array Value} {ty : TypeId}
structure ac0 (P : Program) (ops : Array Oper) (Q : Exit -> Act -> World -> Prop) (T : List Nat) (B i1 i2 j1 j2 d1 d2 e1 e2 : Nat) (w0 : World) (S : List Nat) (a0 : Act) (v1 v2 : Value) (cs : Array Value) (ty : TypeId) : Prop where
 s1 : Stp P ops Q B w0 S a0 i1 d1 v1
 s2 : Stp P ops Q B w0 S a0 i2 d2 v2
 t1 : Sta P ops Q j1 e1 cs ty
 t2 : Sta P ops Q j2 e2 cs ty
 n1 : d1 ∉ S
 n2 : d2 ∉ S
 n3 : e1 ∉ S
 n4 : e2 ∉ S
 e12 : e1 ≠ d1 /\ e1 ≠ d2 /\ e2 ≠ d1 /\ e2 ≠ d2 /\ e2 ≠ e1
 hB : B = w0.heap.size
 fin : ∀ (p1 p2 : Nat) (w : World), B <= p1 -> B <= p2 -> p1 ≠ p2 -> w.heap[p1]? = some (.cells cs ty (0, 0)) -> w.heap[p2]? = some (.cells cs ty (0, 0)) -> Below B w0 w ->
  wpQ P ops Q T B .fin ((((a0.put (some d1) v1).put (some d2) v2).put (some e1) (ac1 p1)).put (some e2) (ac1 p2)) w
theorem aiF (h : ac0 P ops Q T B i1 i2 j1 j2 d1 d2 e1 e2 w0 S a0 v1 v2 cs ty) : ∀ (p1 p2 : Nat) (w : World), Below B w0 w -> B <= p1 -> w.heap[p1]? = some (.cells cs ty (0, 0)) -> B <= p2 -> w.heap[p2]? = some (.cells cs ty (0, 0)) -> p1 ≠ p2 -> wpQ P ops Q T B (am3 i1 i2 j1 j2) ((((a0.put (some d1) v1).put (some d2) v2).put (some e1) (ac1 p1)).put (some e2) (ac1 p2)) w := by
 intro p1 p2 w hb b1 x1 b2 x2 ne; exact h.fin p1 p2 w b1 b2 ne x1 x2 hb
theorem aiG (h : ac0 P ops Q T B i1 i2 j1 j2 d1 d2 e1 e2 w0 S a0 v1 v2 cs ty) : ∀ (p1 p2 : Nat) (w : World), Below B w0 w -> B <= p1 -> w.heap[p1]? = some (.cells cs ty (0, 0)) -> B <= p2 -> w.heap[p2]? = some (.cells cs ty (0, 0)) -> p1 ≠ p2 -> wpQ P ops Q T B (am4 i1 i2 j1 j2) (((a0.put (some d1) v1).put (some e1) (ac1 p1)).put (some e2) (ac1 p2)) w := by
 intro p1 p2 w hb b1 x1 b2 x2 ne; have hs : B <= w.heap.size := Nat.le_trans (Nat.le_of_eq h.hB) hb.size; refine h.s2 _ _ _ (Ag.put (Ag.put (Ag.put (Ag.refl S a0) h.n1 v1) h.n3 (ac1 p1)) h.n4 (ac1 p2)) hb (fun w' hw => ⟨hw.mono hs, ?_⟩); rw [Act.put_comm ((a0.put (some d1) v1).put (some e1) (ac1 p1)) (ac1 p2) v2 (adt h.e12.2.2.2.1), Act.put_comm (a0.put (some d1) v1) (ac1 p1) v2 (adt h.e12.2.1)]; exact aiF h p1 p2 w' (hb.trans (hw.mono hs)) b1 ((hw.block p1 (aab x1)).trans x1) b2 ((hw.block p2 (aab x2)).trans x2) ne
theorem alx (h : ac0 P ops Q T B i1 i2 j1 j2 d1 d2 e1 e2 w0 S a0 v1 v2 cs ty) : ∀ (p2 : Nat) (w : World), Below B w0 w -> B <= p2 -> w.heap[p2]? = some (.cells cs ty (0, 0)) -> wpQ P ops Q T B (aoL i1 i2 j1 j2) (((a0.put (some d1) v1).put (some d2) v2).put (some e2) (ac1 p2)) w := by
 intro p2 w hb b2 x2; have hs : B <= w.heap.size := Nat.le_trans (Nat.le_of_eq h.hB) hb.size; refine h.t1 _ _ _ ⟨(Below.refl _ _).alloc hs _, ?_⟩; rw [Act.put_comm ((a0.put (some d1) v1).put (some d2) v2) (ac1 p2) (ac1 w.heap.size) (adt h.e12.2.2.2.2)]; exact aiF h w.heap.size p2 _ (hb.trans ((Below.refl _ _).alloc hs _)) hs (heap_alloc_new w _) b2 ((heap_alloc_old _ _ (aab x2)).trans x2) (fun e => by have := aab x2; omega)
theorem aly (h : ac0 P ops Q T B i1 i2 j1 j2 d1 d2 e1 e2 w0 S a0 v1 v2 cs ty) : ∀ (p1 : Nat) (w : World), Below B w0 w -> B <= p1 -> w.heap[p1]? = some (.cells cs ty (0, 0)) -> wpQ P ops Q T B (aoM i1 i2 j1 j2) (((a0.put (some d1) v1).put (some d2) v2).put (some e1) (ac1 p1)) w := by
 intro p1 w hb b1 x1; have hs : B <= w.heap.size := Nat.le_trans (Nat.le_of_eq h.hB) hb.size; refine h.t2 _ _ _ ⟨(Below.refl _ _).alloc hs _, ?_⟩; exact aiF h p1 w.heap.size _ (hb.trans ((Below.refl _ _).alloc hs _)) b1 ((heap_alloc_old _ _ (aab x1)).trans x1) hs (heap_alloc_new w _) (fun e => by have := aab x1; omega)
theorem alz (h : ac0 P ops Q T B i1 i2 j1 j2 d1 d2 e1 e2 w0 S a0 v1 v2 cs ty) : ∀ (p1 p2 : Nat) (w : World), Below B w0 w -> B <= p1 -> w.heap[p1]? = some (.cells cs ty (0, 0)) -> B <= p2 -> w.heap[p2]? = some (.cells cs ty (0, 0)) -> p1 ≠ p2 -> wpQ P ops Q T B (aoN i1 i2 j1 j2) ((a0.put (some e1) (ac1 p1)).put (some e2) (ac1 p2)) w := by
 intro p1 p2 w hb b1 x1 b2 x2 ne; have hs : B <= w.heap.size := Nat.le_trans (Nat.le_of_eq h.hB) hb.size; refine h.s1 _ _ _ (Ag.put (Ag.put (Ag.refl S a0) h.n3 (ac1 p1)) h.n4 (ac1 p2)) hb (fun w' hw => ⟨hw.mono hs, ?_⟩); rw [Act.put_comm (a0.put (some e1) (ac1 p1)) (ac1 p2) v1 (adt h.e12.2.2.1), Act.put_comm a0 (ac1 p1) v1 (adt h.e12.1)]; exact aiG h p1 p2 w' (hb.trans (hw.mono hs)) b1 ((hw.block p1 (aab x1)).trans x1) b2 ((hw.block p2 (aab x2)).trans x2) ne
theorem alA (h : ac0 P ops Q T B i1 i2 j1 j2 d1 d2 e1 e2 w0 S a0 v1 v2 cs ty) : ∀ (p2 : Nat) (w : World), Below B w0 w -> B <= p2 -> w.heap[p2]? = some (.cells cs ty (0, 0)) -> wpQ P ops Q T B (aoO i1 i2 j1 j2) ((a0.put (some d1) v1).put (some e2) (ac1 p2)) w := by
 intro p2 w hb b2 x2; have hs : B <= w.heap.size := Nat.le_trans (Nat.le_of_eq h.hB) hb.size; refine ⟨?_, ?_⟩
 · refine h.s2 _ _ _ (Ag.put (Ag.put (Ag.refl S a0) h.n1 v1) h.n4 (ac1 p2)) hb (fun w' hw => ⟨hw.mono hs, ?_⟩); rw [Act.put_comm (a0.put (some d1) v1) (ac1 p2) v2 (adt h.e12.2.2.2.1)]; exact alx h p2 w' (hb.trans (hw.mono hs)) b2 ((hw.block p2 (aab x2)).trans x2)
 · refine h.t1 _ _ _ ⟨(Below.refl _ _).alloc hs _, ?_⟩; rw [Act.put_comm (a0.put (some d1) v1) (ac1 p2) (ac1 w.heap.size) (adt h.e12.2.2.2.2)]; exact aiG h w.heap.size p2 _ (hb.trans ((Below.refl _ _).alloc hs _)) hs (heap_alloc_new w _) b2 ((heap_alloc_old _ _ (aab x2)).trans x2) (fun e => by have := aab x2; omega)
theorem alB (h : ac0 P ops Q T B i1 i2 j1 j2 d1 d2 e1 e2 w0 S a0 v1 v2 cs ty) : ∀ (p1 : Nat) (w : World), Below B w0 w -> B <= p1 -> w.heap[p1]? = some (.cells cs ty (0, 0)) -> wpQ P ops Q T B (aoP i1 i2 j1 j2) ((a0.put (some d1) v1).put (some e1) (ac1 p1)) w := by
 intro p1 w hb b1 x1; have hs : B <= w.heap.size := Nat.le_trans (Nat.le_of_eq h.hB) hb.size; refine ⟨?_, ?_⟩
 · refine h.s2 _ _ _ (Ag.put (Ag.put (Ag.refl S a0) h.n1 v1) h.n3 (ac1 p1)) hb (fun w' hw => ⟨hw.mono hs, ?_⟩); rw [Act.put_comm (a0.put (some d1) v1) (ac1 p1) v2 (adt h.e12.2.1)]; exact aly h p1 w' (hb.trans (hw.mono hs)) b1 ((hw.block p1 (aab x1)).trans x1)
 · refine h.t2 _ _ _ ⟨(Below.refl _ _).alloc hs _, ?_⟩; exact aiG h p1 w.heap.size _ (hb.trans ((Below.refl _ _).alloc hs _)) b1 ((heap_alloc_old _ _ (aab x1)).trans x1) hs (heap_alloc_new w _) (fun e => by have := aab x1; omega)
theorem aoQ (h : ac0 P ops Q T B i1 i2 j1 j2 d1 d2 e1 e2 w0 S a0 v1 v2 cs ty) : ∀ (w : World), Below B w0 w -> wpQ P ops Q T B (apI i1 i2 j1 j2) ((a0.put (some d1) v1).put (some d2) v2) w := by
 intro  w hb; have hs : B <= w.heap.size := Nat.le_trans (Nat.le_of_eq h.hB) hb.size; refine ⟨?_, ?_⟩
 · refine h.t1 _ _ _ ⟨(Below.refl _ _).alloc hs _, ?_⟩; exact aly h w.heap.size _ (hb.trans ((Below.refl _ _).alloc hs _)) hs (heap_alloc_new w _)
 · refine h.t2 _ _ _ ⟨(Below.refl _ _).alloc hs _, ?_⟩; exact alx h w.heap.size _ (hb.trans ((Below.refl _ _).alloc hs _)) hs (heap_alloc_new w _)
theorem aoR (h : ac0 P ops Q T B i1 i2 j1 j2 d1 d2 e1 e2 w0 S a0 v1 v2 cs ty) : ∀ (p2 : Nat) (w : World), Below B w0 w -> B <= p2 -> w.heap[p2]? = some (.cells cs ty (0, 0)) -> wpQ P ops Q T B (apJ i1 i2 j1 j2) (a0.put (some e2) (ac1 p2)) w := by
 intro p2 w hb b2 x2; have hs : B <= w.heap.size := Nat.le_trans (Nat.le_of_eq h.hB) hb.size; refine ⟨?_, ?_⟩
 · refine h.s1 _ _ _ (Ag.put (Ag.refl S a0) h.n4 (ac1 p2)) hb (fun w' hw => ⟨hw.mono hs, ?_⟩); rw [Act.put_comm a0 (ac1 p2) v1 (adt h.e12.2.2.1)]; exact alA h p2 w' (hb.trans (hw.mono hs)) b2 ((hw.block p2 (aab x2)).trans x2)
 · refine h.t1 _ _ _ ⟨(Below.refl _ _).alloc hs _, ?_⟩; rw [Act.put_comm a0 (ac1 p2) (ac1 w.heap.size) (adt h.e12.2.2.2.2)]; exact alz h w.heap.size p2 _ (hb.trans ((Below.refl _ _).alloc hs _)) hs (heap_alloc_new w _) b2 ((heap_alloc_old _ _ (aab x2)).trans x2) (fun e => by have := aab x2; omega)
theorem aoS (h : ac0 P ops Q T B i1 i2 j1 j2 d1 d2 e1 e2 w0 S a0 v1 v2 cs ty) : ∀ (p1 : Nat) (w : World), Below B w0 w -> B <= p1 -> w.heap[p1]? = some (.cells cs ty (0, 0)) -> wpQ P ops Q T B (apK i1 i2 j1 j2) (a0.put (some e1) (ac1 p1)) w := by
 intro p1 w hb b1 x1; have hs : B <= w.heap.size := Nat.le_trans (Nat.le_of_eq h.hB) hb.size; refine ⟨?_, ?_⟩
 · refine h.s1 _ _ _ (Ag.put (Ag.refl S a0) h.n3 (ac1 p1)) hb (fun w' hw => ⟨hw.mono hs, ?_⟩); rw [Act.put_comm a0 (ac1 p1) v1 (adt h.e12.1)]; exact alB h p1 w' (hb.trans (hw.mono hs)) b1 ((hw.block p1 (aab x1)).trans x1)
 · refine h.t2 _ _ _ ⟨(Below.refl _ _).alloc hs _, ?_⟩; exact alz h p1 w.heap.size _ (hb.trans ((Below.refl _ _).alloc hs _)) b1 ((heap_alloc_old _ _ (aab x1)).trans x1) hs (heap_alloc_new w _) (fun e => by have := aab x1; omega)
theorem aoT (h : ac0 P ops Q T B i1 i2 j1 j2 d1 d2 e1 e2 w0 S a0 v1 v2 cs ty) : ∀ (w : World), Below B w0 w -> wpQ P ops Q T B (apL i1 i2 j1 j2) (a0.put (some d1) v1) w := by
 intro  w hb; have hs : B <= w.heap.size := Nat.le_trans (Nat.le_of_eq h.hB) hb.size; refine ⟨?_, ?_, ?_⟩
 · refine h.s2 _ _ _ (Ag.put (Ag.refl S a0) h.n1 v1) hb (fun w' hw => ⟨hw.mono hs, ?_⟩); exact aoQ h  w' (hb.trans (hw.mono hs))
 · refine h.t1 _ _ _ ⟨(Below.refl _ _).alloc hs _, ?_⟩; exact alB h w.heap.size _ (hb.trans ((Below.refl _ _).alloc hs _)) hs (heap_alloc_new w _)
 · refine h.t2 _ _ _ ⟨(Below.refl _ _).alloc hs _, ?_⟩; exact alA h w.heap.size _ (hb.trans ((Below.refl _ _).alloc hs _)) hs (heap_alloc_new w _)
theorem aoU (h : ac0 P ops Q T B i1 i2 j1 j2 d1 d2 e1 e2 w0 S a0 v1 v2 cs ty) : ∀ (w : World), Below B w0 w -> wpQ P ops Q T B (apM i1 i2 j1 j2) a0 w := by
 intro  w hb; have hs : B <= w.heap.size := Nat.le_trans (Nat.le_of_eq h.hB) hb.size; refine ⟨?_, ?_, ?_⟩
 · refine h.s1 _ _ _ (Ag.refl S a0) hb (fun w' hw => ⟨hw.mono hs, ?_⟩); exact aoT h  w' (hb.trans (hw.mono hs))
 · refine h.t1 _ _ _ ⟨(Below.refl _ _).alloc hs _, ?_⟩; exact aoS h w.heap.size _ (hb.trans ((Below.refl _ _).alloc hs _)) hs (heap_alloc_new w _)
 · refine h.t2 _ _ _ ⟨(Below.refl _ _).alloc hs _, ?_⟩; exact aoR h w.heap.size _ (hb.trans ((Below.refl _ _).alloc hs _)) hs (heap_alloc_new w _)
theorem alC (h : ac0 P ops Q T B i1 i2 j1 j2 d1 d2 e1 e2 w0 S a0 v1 v2 cs ty) : wpQ P ops Q T B (apN i1 i2 j1 j2) a0 w0 := aoU h w0 (Below.refl _ _)
end
def acO (k : Int) (g base cap : Nat) (A : Option Addr) (bs : List UInt8) (H : Hp) (y : Option Hp) (w : World) (e : Ending) (w' : World) : Prop :=
 match y with
 | none => e = .returned (aaz false k) /\ Below w.heap.size w w'
 | some H' => e = .returned (aaz true k) /\ ∃ out, Became 79 g base cap A out w w' /\ Rt out H' /\ Held H bs H' out
def acz (g base cap : Nat) (A : Option Addr) (bs : List UInt8) (H : Hp) (y : Option Nat × Hp) (w : World) (e : Ending) (w' : World) : Prop :=
 match y.1 with
 | none => e = .returned (.tuple #[.int .i64 0, aaz false 5]) /\ Below w.heap.size w w'
 | some o => e = .returned (.tuple #[.int .i64 (o : Int), aaz true 5]) /\ ∃ out, Became 79 g base cap A out w w' /\ Rt out y.2 /\ Held H bs y.2 out
def aqr : Prop := ∀ (w : World) (g base cap c : Nat) (A : Option Addr) (bs : List UInt8) (H : Hp) (s : Int), Ar w 79 g base cap A c bs -> base <= 4611686018427387904 -> cap <= 16384 -> H.cap = cap -> Rt bs H -> (-9223372036854775808 <= s /\ s <= 9223372036854775807) ->
 (aaG s = false -> Calls Tryz.prog 84 #[.pointer (some ⟨g, 0, none⟩), .int .i64 s] w fun e w' => e = .returned (.tuple #[.int .i64 0, aaz false 1]) /\ Below w.heap.size w w') /\
 (aaG s = true -> Calls Tryz.prog 84 #[.pointer (some ⟨g, 0, none⟩), .int .i64 s] w fun e w' => acz g base cap A bs H (H.take s.toNat) w e w')
def aqs : Prop := ∀ (w : World) (g base cap c : Nat) (A : Option Addr) (bs : List UInt8) (H : Hp) (o : Int), Ar w 79 g base cap A c bs -> base <= 4611686018427387904 -> cap <= 16384 -> H.cap = cap -> Rt bs H -> (-9223372036854775808 <= o /\ o <= 9223372036854775807) ->
 Calls Tryz.prog 57 #[.pointer (some ⟨g, 0, none⟩), .int .i64 o] w fun e w' => acO 3 g base cap A bs H (H.giveO o) w e w'
def aqt : Prop := ∀ (w : World) (g base cap c : Nat) (A : Option Addr) (bs : List UInt8) (H : Hp) (o s : Int), Ar w 79 g base cap A c bs -> base <= 4611686018427387904 -> cap <= 16384 -> H.cap = cap -> Rt bs H -> (-9223372036854775808 <= o /\ o <= 9223372036854775807) -> (-9223372036854775808 <= s /\ s <= 9223372036854775807) ->
 (aaG s = false -> Calls Tryz.prog 88 #[.pointer (some ⟨g, 0, none⟩), .int .i64 o, .int .i64 s] w fun e w' => e = .returned (aaz false 1) /\ Below w.heap.size w w') /\
 (aaG s = true -> Calls Tryz.prog 88 #[.pointer (some ⟨g, 0, none⟩), .int .i64 o, .int .i64 s] w fun e w' => acO 3 g base cap A bs H (H.trimO o s.toNat) w e w')
def aqu : Prop := ∀ (w : World) (g base cap c : Nat) (A : Option Addr) (bs : List UInt8) (H : Hp) (o : Int), Ar w 79 g base cap A c bs -> base <= 4611686018427387904 -> cap <= 16384 -> H.cap = cap -> Rt bs H -> (-9223372036854775808 <= o /\ o <= 9223372036854775807) ->
 Calls Tryz.prog 85 #[.pointer (some ⟨g, 0, none⟩), .int .i64 o] w fun e w' => aaL ((aaK H.blks o).map (aag H.blks)) w e w'
def frV (o : Int) : Option Bk -> Value
 | none => .agg #[.int .i64 o, .int .i64 0, .bool false]
 | some y => .agg #[.int .i64 (y.off : Int), .int .i64 (y.size : Int), .bool false]
theorem acA {fn : Func} {R : Ending -> World -> Prop} {a : Act} {w : World} {p : Tmp} {g : Nat} {o s : Int} {b : Bool} (hres : fn.results = #[.cell p 81]) (hp : a.tmps.getD p undef = .pointer (some ⟨g, 0, none⟩)) (hd : a.defers = [])
 (hg : w.heap[g]? = some (.cells #[.int .i64 o, .int .i64 s, .bool b] 81 (0, 0))) (hR : R (.returned (.agg #[.int .i64 o, .int .i64 s, .bool b])) w) : bodyPost Tryz.prog fn R .ret a w := by
 refine bodyPost_ret (v := .agg #[.int .i64 o, .int .i64 s, .bool b]) ?_ hd hR; exact results_cell_row hres _ _ g _ _ _ _ hp hg rfl rfl rfl
section
variable {w : World} {g base cap c : Nat} {A : Option Addr} {bs : List UInt8}
theorem aiH (h : Ar w 79 g base cap A c bs) (hb : base <= 4611686018427387904) (hl : bs.length <= 16384) (o : Int) (ho : -9223372036854775808 <= o /\ o <= 9223372036854775807) (hy : abt bs o = none) :
 Calls Tryz.prog 114 #[.pointer (some ⟨g, 0, none⟩), .int .i64 o] w fun e w' => e = .returned (frV o none) /\ Below w.heap.size w w' := by
 obtain ⟨w1, hw1⟩ := nmE (w.alloc (.cells #[.int .i64 0, .int .i64 0, .bool false] 81)); have hb1 := abE hw1; have hn1 := anE hw1; have h1 := h.below hb1; have hG := ahq w1 g base cap c A bs o _ h1 hb hl ho hy; dsimp only [aaL, bkV, Bk.val, Option.isSome, aaz] at hG; have HG := hE0 hG; have HW1 := hE0 hw1; have HB1 := hE0 hb1; have HN1 := hE0 hn1; clear hG hy hw1 hb1 hn1 h1 h; go_enter Tryz.func114, Tryz.ntmps114
 go_wp2_with fail
 rw [HW1.out]
 with_reducible refine HG.out.mono ?_
 rintro e w2 ⟨rfl, hb2⟩; have hn2 := (hb2.block w.heap.size (aab HN1.out)).trans HN1.out; have HB2 := hE0 (HB1.out.trans (hb2.mono HB1.out.size)); have HN2 := hE0 hn2; clear hb2 hn2 HG; obtain ⟨⟨c0, c1, c2⟩, f0, f1, f2⟩ := aad HN2.out; have hlt := aaa HN2.out; go_wp2
 (try simp only [Exit.inBlock, Exit.then])
 refine acA (g := w.heap.size) (o := o) (s := 0) (b := false) Tryz.results114 ?_ ?_ ((heap_alloc_old _ _ (aab (aaC HN2.out _ _ _))).trans (aaC HN2.out _ _ _)) ?_
 · rfl
 · rfl
 · refine ⟨rfl, Below.alloc (((HB2.out.setCell ?_ _).setCell ?_ _).setCell ?_ _) ?_ _⟩
   · exact Nat.le_refl _
   · exact Nat.le_refl _
   · exact Nat.le_refl _
   · simp only [World.setCell]; have h9 := HB2.out.size; simpa using h9
theorem aiI (h : Ar w 79 g base cap A c bs) (hb : base <= 4611686018427387904) (hl : bs.length <= 16384) (o : Int) (ho : -9223372036854775808 <= o /\ o <= 9223372036854775807) (xo xs : Nat) (hy : abt bs o = some ⟨xo, xs, true⟩) :
 Calls Tryz.prog 114 #[.pointer (some ⟨g, 0, none⟩), .int .i64 o] w fun e w' => e = .returned (frV o none) /\ Below w.heap.size w w' := by
 obtain ⟨w1, hw1⟩ := nmE (w.alloc (.cells #[.int .i64 0, .int .i64 0, .bool false] 81)); have hb1 := abE hw1; have hn1 := anE hw1; have h1 := h.below hb1; have hG := ahq w1 g base cap c A bs o _ h1 hb hl ho hy; dsimp only [aaL, bkV, Bk.val, Option.isSome, aaz] at hG; have HG := hE0 hG; have HW1 := hE0 hw1; have HB1 := hE0 hb1; have HN1 := hE0 hn1; clear hG hy hw1 hb1 hn1 h1 h; go_enter Tryz.func114, Tryz.ntmps114
 go_wp2_with fail
 rw [HW1.out]
 with_reducible refine HG.out.mono ?_
 rintro e w2 ⟨rfl, hb2⟩; have hn2 := (hb2.block w.heap.size (aab HN1.out)).trans HN1.out; have HB2 := hE0 (HB1.out.trans (hb2.mono HB1.out.size)); have HN2 := hE0 hn2; clear hb2 hn2 HG; obtain ⟨⟨c0, c1, c2⟩, f0, f1, f2⟩ := aad HN2.out; have hlt := aaa HN2.out; go_wp2
 (try simp only [Exit.inBlock, Exit.then])
 refine acA (g := w.heap.size) (o := o) (s := 0) (b := false) Tryz.results114 ?_ ?_ ((heap_alloc_old _ _ (aab (aaC HN2.out _ _ _))).trans (aaC HN2.out _ _ _)) ?_
 · rfl
 · rfl
 · refine ⟨rfl, Below.alloc (((HB2.out.setCell ?_ _).setCell ?_ _).setCell ?_ _) ?_ _⟩
   · exact Nat.le_refl _
   · exact Nat.le_refl _
   · exact Nat.le_refl _
   · simp only [World.setCell]; have h9 := HB2.out.size; simpa using h9
theorem aiJ (h : Ar w 79 g base cap A c bs) (hb : base <= 4611686018427387904) (hl : bs.length <= 16384) (o : Int) (ho : -9223372036854775808 <= o /\ o <= 9223372036854775807) (xo xs : Nat) (hy : abt bs o = some ⟨xo, xs, false⟩) :
 Calls Tryz.prog 114 #[.pointer (some ⟨g, 0, none⟩), .int .i64 o] w fun e w' => e = .returned (frV o (some ⟨xo, xs, false⟩)) /\ Below w.heap.size w w' := by
 obtain ⟨w1, hw1⟩ := nmE (w.alloc (.cells #[.int .i64 0, .int .i64 0, .bool false] 81)); have hb1 := abE hw1; have hn1 := anE hw1; have h1 := h.below hb1; have hG := ahq w1 g base cap c A bs o _ h1 hb hl ho hy; dsimp only [aaL, bkV, Bk.val, Option.isSome, aaz] at hG; have HG := hE0 hG; have HW1 := hE0 hw1; have HB1 := hE0 hb1; have HN1 := hE0 hn1; clear hG hy hw1 hb1 hn1 h1 h; go_enter Tryz.func114, Tryz.ntmps114
 go_wp2_with fail
 rw [HW1.out]
 with_reducible refine HG.out.mono ?_
 rintro e w2 ⟨rfl, hb2⟩; have hn2 := (hb2.block w.heap.size (aab HN1.out)).trans HN1.out; have HB2 := hE0 (HB1.out.trans (hb2.mono HB1.out.size)); have HN2 := hE0 hn2; clear hb2 hn2 HG; obtain ⟨⟨c0, c1, c2⟩, f0, f1, f2⟩ := aad HN2.out; have hlt := aaa HN2.out; go_wp2
 (try simp only [Exit.inBlock, Exit.then])
 refine acA (g := w.heap.size) (o := (xo : Int)) (s := (xs : Int)) (b := false) Tryz.results114 ?_ ?_ ((heap_alloc_old _ _ (aab (aaC HN2.out _ _ _))).trans (aaC HN2.out _ _ _)) ?_
 · rfl
 · rfl
 · refine ⟨rfl, Below.alloc (((HB2.out.setCell ?_ _).setCell ?_ _).setCell ?_ _) ?_ _⟩
   · exact Nat.le_refl _
   · exact Nat.le_refl _
   · exact Nat.le_refl _
   · simp only [World.setCell]; have h9 := HB2.out.size; simpa using h9
theorem aj4 (h : Ar w 79 g base cap A c bs) (hb : base <= 4611686018427387904) (hl : bs.length <= 16384) (o : Int) (ho : -9223372036854775808 <= o /\ o <= 9223372036854775807) (y : Option Bk) (hy : frO (abt bs o) = y) :
 Calls Tryz.prog 114 #[.pointer (some ⟨g, 0, none⟩), .int .i64 o] w fun e w' => e = .returned (frV o y) /\ Below w.heap.size w w' := by
 subst hy
 cases hg : abt bs o with
 | none => exact aiH h hb hl o ho hg
 | some x =>
  obtain ⟨xo, xs, xu⟩ := x
  cases xu with
  | true => exact aiI h hb hl o ho xo xs hg
  | false => exact aiJ h hb hl o ho xo xs hg
theorem afx (h : Ar w 79 g base cap A c bs) (hb : base <= 4611686018427387904) (hl : bs.length <= 16384) (o : Int) (ho : -9223372036854775808 <= o /\ o <= 9223372036854775807) (hy : abT bs o = none) :
 Calls Tryz.prog 115 #[.pointer (some ⟨g, 0, none⟩), .int .i64 o] w fun e w' => e = .returned (frV o none) /\ Below w.heap.size w w' := by
 obtain ⟨w1, hw1⟩ := nmE (w.alloc (.cells #[.int .i64 0, .int .i64 0, .bool false] 81)); have hb1 := abE hw1; have hn1 := anE hw1; have h1 := h.below hb1; have hG := ak3 w1 g base cap c A bs o _ h1 hb hl ho hy; dsimp only [aaL, bkV, Bk.val, Option.isSome, aaz] at hG; have HG := hE0 hG; have HW1 := hE0 hw1; have HB1 := hE0 hb1; have HN1 := hE0 hn1; clear hG hy hw1 hb1 hn1 h1 h; go_enter Tryz.func115, Tryz.ntmps115
 go_wp2_with fail
 rw [HW1.out]
 with_reducible refine HG.out.mono ?_
 rintro e w2 ⟨rfl, hb2⟩; have hn2 := (hb2.block w.heap.size (aab HN1.out)).trans HN1.out; have HB2 := hE0 (HB1.out.trans (hb2.mono HB1.out.size)); have HN2 := hE0 hn2; clear hb2 hn2 HG; obtain ⟨⟨c0, c1, c2⟩, f0, f1, f2⟩ := aad HN2.out; have hlt := aaa HN2.out; go_wp2
 (try simp only [Exit.inBlock, Exit.then])
 refine acA (g := w.heap.size) (o := o) (s := 0) (b := false) Tryz.results115 ?_ ?_ ((heap_alloc_old _ _ (aab (aaC HN2.out _ _ _))).trans (aaC HN2.out _ _ _)) ?_
 · rfl
 · rfl
 · refine ⟨rfl, Below.alloc (((HB2.out.setCell ?_ _).setCell ?_ _).setCell ?_ _) ?_ _⟩
   · exact Nat.le_refl _
   · exact Nat.le_refl _
   · exact Nat.le_refl _
   · simp only [World.setCell]; have h9 := HB2.out.size; simpa using h9
theorem afy (h : Ar w 79 g base cap A c bs) (hb : base <= 4611686018427387904) (hl : bs.length <= 16384) (o : Int) (ho : -9223372036854775808 <= o /\ o <= 9223372036854775807) (xo xs : Nat) (hy : abT bs o = some ⟨xo, xs, true⟩) :
 Calls Tryz.prog 115 #[.pointer (some ⟨g, 0, none⟩), .int .i64 o] w fun e w' => e = .returned (frV o none) /\ Below w.heap.size w w' := by
 obtain ⟨w1, hw1⟩ := nmE (w.alloc (.cells #[.int .i64 0, .int .i64 0, .bool false] 81)); have hb1 := abE hw1; have hn1 := anE hw1; have h1 := h.below hb1; have hG := ak3 w1 g base cap c A bs o _ h1 hb hl ho hy; dsimp only [aaL, bkV, Bk.val, Option.isSome, aaz] at hG; have HG := hE0 hG; have HW1 := hE0 hw1; have HB1 := hE0 hb1; have HN1 := hE0 hn1; clear hG hy hw1 hb1 hn1 h1 h; go_enter Tryz.func115, Tryz.ntmps115
 go_wp2_with fail
 rw [HW1.out]
 with_reducible refine HG.out.mono ?_
 rintro e w2 ⟨rfl, hb2⟩; have hn2 := (hb2.block w.heap.size (aab HN1.out)).trans HN1.out; have HB2 := hE0 (HB1.out.trans (hb2.mono HB1.out.size)); have HN2 := hE0 hn2; clear hb2 hn2 HG; obtain ⟨⟨c0, c1, c2⟩, f0, f1, f2⟩ := aad HN2.out; have hlt := aaa HN2.out; go_wp2
 (try simp only [Exit.inBlock, Exit.then])
 refine acA (g := w.heap.size) (o := o) (s := 0) (b := false) Tryz.results115 ?_ ?_ ((heap_alloc_old _ _ (aab (aaC HN2.out _ _ _))).trans (aaC HN2.out _ _ _)) ?_
 · rfl
 · rfl
 · refine ⟨rfl, Below.alloc (((HB2.out.setCell ?_ _).setCell ?_ _).setCell ?_ _) ?_ _⟩
   · exact Nat.le_refl _
   · exact Nat.le_refl _
   · exact Nat.le_refl _
   · simp only [World.setCell]; have h9 := HB2.out.size; simpa using h9
theorem afz (h : Ar w 79 g base cap A c bs) (hb : base <= 4611686018427387904) (hl : bs.length <= 16384) (o : Int) (ho : -9223372036854775808 <= o /\ o <= 9223372036854775807) (xo xs : Nat) (hy : abT bs o = some ⟨xo, xs, false⟩) :
 Calls Tryz.prog 115 #[.pointer (some ⟨g, 0, none⟩), .int .i64 o] w fun e w' => e = .returned (frV o (some ⟨xo, xs, false⟩)) /\ Below w.heap.size w w' := by
 obtain ⟨w1, hw1⟩ := nmE (w.alloc (.cells #[.int .i64 0, .int .i64 0, .bool false] 81)); have hb1 := abE hw1; have hn1 := anE hw1; have h1 := h.below hb1; have hG := ak3 w1 g base cap c A bs o _ h1 hb hl ho hy; dsimp only [aaL, bkV, Bk.val, Option.isSome, aaz] at hG; have HG := hE0 hG; have HW1 := hE0 hw1; have HB1 := hE0 hb1; have HN1 := hE0 hn1; clear hG hy hw1 hb1 hn1 h1 h; go_enter Tryz.func115, Tryz.ntmps115
 go_wp2_with fail
 rw [HW1.out]
 with_reducible refine HG.out.mono ?_
 rintro e w2 ⟨rfl, hb2⟩; have hn2 := (hb2.block w.heap.size (aab HN1.out)).trans HN1.out; have HB2 := hE0 (HB1.out.trans (hb2.mono HB1.out.size)); have HN2 := hE0 hn2; clear hb2 hn2 HG; obtain ⟨⟨c0, c1, c2⟩, f0, f1, f2⟩ := aad HN2.out; have hlt := aaa HN2.out; go_wp2
 (try simp only [Exit.inBlock, Exit.then])
 refine acA (g := w.heap.size) (o := (xo : Int)) (s := (xs : Int)) (b := false) Tryz.results115 ?_ ?_ ((heap_alloc_old _ _ (aab (aaC HN2.out _ _ _))).trans (aaC HN2.out _ _ _)) ?_
 · rfl
 · rfl
 · refine ⟨rfl, Below.alloc (((HB2.out.setCell ?_ _).setCell ?_ _).setCell ?_ _) ?_ _⟩
   · exact Nat.le_refl _
   · exact Nat.le_refl _
   · exact Nat.le_refl _
   · simp only [World.setCell]; have h9 := HB2.out.size; simpa using h9
theorem ade (h : Ar w 79 g base cap A c bs) (hb : base <= 4611686018427387904) (hl : bs.length <= 16384) (o : Int) (ho : -9223372036854775808 <= o /\ o <= 9223372036854775807) (y : Option Bk) (hy : frO (abT bs o) = y) :
 Calls Tryz.prog 115 #[.pointer (some ⟨g, 0, none⟩), .int .i64 o] w fun e w' => e = .returned (frV o y) /\ Below w.heap.size w w' := by
 subst hy
 cases hg : abT bs o with
 | none => exact afx h hb hl o ho hg
 | some x =>
  obtain ⟨xo, xs, xu⟩ := x
  cases xu with
  | true => exact afy h hb hl o ho xo xs hg
  | false => exact afz h hb hl o ho xo xs hg
theorem ahG (o : Int) :
 Calls Tryz.prog 116 #[.pointer (some ⟨g, 0, none⟩), .agg #[.int .i64 o, .int .i64 0, .bool false]] w fun e w' => e = .returned (.tuple #[]) /\ Below w.heap.size w w' := by
 go_enter Tryz.func116, Tryz.ntmps116
 go_wp2
 go_end0
 exact ⟨rfl, (Below.refl _ _).alloc (Nat.le_refl _) _⟩
theorem ahH (h : Ar w 79 g base cap A c bs) (hb : base <= 4611686018427387904) (hl : bs.length <= 16384) (o s : Nat) (ho : (o : Int) <= 9223372036854775807) (hs : (0 : Int) < (s : Int)) (out : List UInt8) (hy : adR bs (o : Int) = some out) :
 Calls Tryz.prog 116 #[.pointer (some ⟨g, 0, none⟩), .agg #[.int .i64 (o : Int), .int .i64 (s : Int), .bool false]] w fun e w' => e = .returned (.tuple #[]) /\ Became 79 g base cap A out w w' := by
 obtain ⟨w1, hw1⟩ := nmE (w.alloc (.cells #[.int .i64 (o : Int), .int .i64 (s : Int), .bool false] 81)); have hb1 := abE hw1; have hT := apz w1 g base cap c A bs (o : Int) _ (h.below hb1) hb hl (by omega) hy; dsimp only [amg, aaz] at hT; have HT := hE0 hT; have HW1 := hE0 hw1; have HB1 := hE0 hb1; clear hT hy hw1 hb1 h; go_enter Tryz.func116, Tryz.ntmps116
 go_wp2_with fail
 rw [HW1.out]
 with_reducible refine HT.out.mono ?_
 rintro e w2 ⟨rfl, hb2⟩; have HB2 := hE0 (hb2.after HB1.out); clear hb2 HT; go_wp2
 go_end0
 exact ⟨rfl, HB2.out⟩
end
def Loc (w w' : World) : Prop := ∀ (k : Nat) (cs : Array Value), w.heap[k]? = some (.cells cs 81 (0, 0)) -> w'.heap[k]? = some (.cells cs 81 (0, 0))
theorem Loc.below {w w' : World} (h : Below w.heap.size w w') : Loc w w' := fun i _ hi => (h.block i (aab hi)).trans hi
theorem agO {w : World} {g base cap c : Nat} {A : Option Addr} {bs : List UInt8} (h : Ar w 79 g base cap A c bs) {k : Nat} {cs : Array Value} (hk : w.heap[k]? = some (.cells cs 81 (0, 0))) : ¬ abg g A k := by
 rintro (rfl | ⟨a, ea, rfl⟩)
 · have h1 := h.obj; rw [hk] at h1; injection h1 with h1; injection h1 with _ h2 _; exact absurd h2 (by decide)
 · obtain ⟨h', e, cur, h1, _⟩ := h.row ea; rw [e] at hk; have hk : w.heap[h']? = some (.cells cs 81 (0, 0)) := hk; rw [hk] at h1; injection h1 with h1; injection h1 with _ h2 _; exact absurd h2 (by decide)
theorem Loc.tch {w w' : World} {g base cap c : Nat} {A : Option Addr} {bs : List UInt8} (h : Ar w 79 g base cap A c bs) (ht : Tch (abg g A) w w') : Loc w w' := fun i _ hi => (ht.block i (aab hi) (agO h hi)).trans hi
section
variable {w w1 : World} {g base cap : Nat} {A : Option Addr} {b1 b2 : List UInt8}
theorem af0 {k : Nat} {cs : Array Value} (h : Became 79 g base cap A b1 w w1) (hk : w1.heap[k]? = some (.cells cs 81 (0, 0))) (hB : w.heap.size <= k) (i : Nat) (v : Value) : Became 79 g base cap A b1 w (w1.setCell ⟨k, i, none⟩ v) := by
 obtain ⟨A', c', a, tc, kk⟩ := h; have hne := agO a hk; refine ⟨A', c', a.keep fun q hq => Below.heap_setCell w1 ⟨k, i, none⟩ v q (fun e => by have e : q = k := e; subst e; exact hne hq), ?_, kk⟩; exact ⟨tc.os, tc.tape, tc.output, by simpa [World.setCell] using tc.size, fun q hq hn => (Below.heap_setCell w1 ⟨k, i, none⟩ v q (fun e => by have e : q = k := e; omega)).trans (tc.block q hq hn)⟩
theorem abm (h : Became 79 g base cap A b1 w w1) (o : Obj) : Became 79 g base cap A b1 w (w1.alloc o) := aaP h ((Below.refl _ _).alloc (Nat.le_refl _) _)
theorem apO (h : Became 79 g base cap A b1 w w1) (hb : base <= 4611686018427387904) (hl : b1.length <= 16384) (o : Int) (ho : -9223372036854775808 <= o /\ o <= 9223372036854775807) (y : Option Bk) (hy : frO (abt b1 o) = y) :
 Calls Tryz.prog 114 #[.pointer (some ⟨g, 0, none⟩), .int .i64 o] w1 fun e w2 => e = .returned (frV o y) /\ Became 79 g base cap A b1 w w2 /\ Below w1.heap.size w1 w2 := by
 obtain ⟨A', c', a, tc, k⟩ := h; refine (aj4 a hb hl o ho y hy).mono ?_; rintro e w2 ⟨h1, h2⟩; exact ⟨h1, aaP ⟨A', c', a, tc, k⟩ h2, h2⟩
theorem am5 (h : Became 79 g base cap A b1 w w1) (hb : base <= 4611686018427387904) (hl : b1.length <= 16384) (o : Int) (ho : -9223372036854775808 <= o /\ o <= 9223372036854775807) (y : Option Bk) (hy : frO (abT b1 o) = y) :
 Calls Tryz.prog 115 #[.pointer (some ⟨g, 0, none⟩), .int .i64 o] w1 fun e w2 => e = .returned (frV o y) /\ Became 79 g base cap A b1 w w2 /\ Below w1.heap.size w1 w2 := by
 obtain ⟨A', c', a, tc, k⟩ := h; refine (ade a hb hl o ho y hy).mono ?_; rintro e w2 ⟨h1, h2⟩; exact ⟨h1, aaP ⟨A', c', a, tc, k⟩ h2, h2⟩
theorem ajD (h : Became 79 g base cap A b1 w w1) (hb : base <= 4611686018427387904) (hl : b1.length <= 16384) (o : Int) (y : Option Bk) (hs : ∀ z, y = some z -> 0 < z.size /\ z.off <= 16384) (hy : alu b1 y = some b2) :
 Calls Tryz.prog 116 #[.pointer (some ⟨g, 0, none⟩), frV o y] w1 fun e w2 => e = .returned (.tuple #[]) /\ Became 79 g base cap A b2 w w2 /\ Loc w1 w2 := by
 cases y with
 | none =>
  injection hy with hy; subst hy; refine (ahG o).mono ?_; rintro e w2 ⟨h1, h2⟩; exact ⟨h1, aaP h h2, Loc.below h2⟩
 | some z =>
  obtain ⟨A', c', a, tc, k⟩ := h; have hz := hs z rfl; refine (ahH a hb hl z.off z.size (by omega) (by omega) b2 hy).mono ?_; rintro e w2 ⟨h1, h2⟩; have h2' := h2; obtain ⟨_, _, _, ht, _⟩ := h2'; exact ⟨h1, Became.trans a tc k h2, Loc.tch a ht⟩
theorem af1 (h : Became 79 g base cap A b1 w w1) (hb : base <= 4611686018427387904) (hl : b1.length <= 16384) (o s : Nat) (u : Bool) (ho : o <= 16384) (hs : s <= 16384) (hy : adM b1 (o : Int) (s : Int) u = some b2) :
 Calls Tryz.prog 117 #[.pointer (some ⟨g, 0, none⟩), .agg #[.int .i64 (o : Int), .int .i64 (s : Int), .bool u]] w1 fun e w2 => e = .returned .nilIface /\ Became 79 g base cap A b2 w w2 /\ Loc w1 w2 := by
 obtain ⟨A', c', a, tc, k⟩ := h; refine (aqQ w1 g base cap c' A' b1 (o : Int) (s : Int) u _ a hb hl (by omega) (by omega) hy).mono ?_; rintro e w2 ⟨h1, h2⟩; have h2' := h2; obtain ⟨_, _, _, ht, _⟩ := h2'; exact ⟨h1, Became.trans a tc k h2, Loc.tch a ht⟩
theorem apP (h : Became 79 g base cap A b1 w w1) (hb : base <= 4611686018427387904) (hl : b1.length <= 16384) (o : Nat) (ho : o <= 16384) (hy : afI b1 (o : Int) = some b2) :
 Calls Tryz.prog 82 #[.pointer (some ⟨g, 0, none⟩), .int .i64 (o : Int)] w1 fun e w2 => e = .returned .nilIface /\ Became 79 g base cap A b2 w w2 /\ Loc w1 w2 := by
 obtain ⟨A', c', a, tc, k⟩ := h; refine (aqS w1 g base cap c' A' b1 (o : Int) _ a hb hl (by omega) hy).mono ?_; rintro e w2 ⟨h1, h2⟩; have h2' := h2; obtain ⟨_, _, _, ht, _⟩ := h2'; exact ⟨h1, Became.trans a tc k h2, Loc.tch a ht⟩
theorem aoV (h : Became 79 g base cap A b1 w w1) (n : Nat) (hl : b1.length <= cap) (hcap : cap <= 16384) (hn : b1.length + n <= cap) :
 Calls Tryz.prog 28 #[.pointer (some ⟨g, 0, none⟩), .int .i64 (n : Int)] w1 fun e w2 => e = .returned .nilIface /\ Became 79 g base cap A (b1 ++ List.replicate n 0) w w2 /\ Loc w1 w2 := by
 obtain ⟨A', c', a, tc, k⟩ := h; refine (ah8 a n hl hcap hn).mono ?_; rintro e w2 ⟨h1, h2⟩; have h2' := h2; obtain ⟨_, _, _, ht, _⟩ := h2'; exact ⟨h1, Became.trans a tc k h2, Loc.tch a ht⟩
end
theorem aeE (o : Int) (y : Option Bk) : frV o y = .agg #[.int .i64 ((y.map fun z => (z.off : Int)).getD o), .int .i64 (((y.map Bk.size).getD 0 : Nat) : Int), .bool false] := by cases y <;> rfl
theorem aj5 {bs out : List UInt8} {o s : Int} {u : Bool} (h : adM bs o s u = some out) : 184 <= o /\ 32 <= s /\ o + s <= bs.length := by
 unfold adM at h; split at h
 · rename_i hc; have h1 := (aac _).1 hc.1; have h2 := (abi _ _ _).1 hc.2; omega
 · cases h
theorem Rt.bound {bs : List UInt8} {H : Hp} (h : Rt bs H) (hc : H.cap <= 16384) : bs.length <= 16384 /\ ∀ y ∈ H.blks, 184 <= y.off /\ 32 <= y.size /\ y.off + y.size <= bs.length := by
 have hM := h.md hc; refine ⟨hM.ls.small, fun y hy => ?_⟩; have := hM.ls.st.facts hy; omega
theorem alD {ops : Array Oper} {Q : Exit -> Act -> World -> Prop} {o : Oper} {rest : List Oper} {a : Act} {w : World} {x y : Operand} {gx : Nat} {p q : Int} {r : Bool} {v0 v1 v2 : Value} (ho : o.op = .store 81 x y) (hd : o.dst = none)
 (hw : Region.wanted o (yielded ops a.tmps) = true) (hx : a.eval x = .pointer (some ⟨gx, 0, none⟩)) (hy : a.eval y = .agg #[.int .i64 p, .int .i64 q, .bool r]) (h : w.heap[gx]? = some (.cells #[v0, v1, v2] 81 (0, 0)))
 (hk : ∀ w', w'.heap[gx]? = some (.cells #[.int .i64 p, .int .i64 q, .bool r] 81 (0, 0)) -> (∀ k, k ≠ gx -> w'.heap[k]? = w.heap[k]?) -> (∀ B, B <= gx -> Below B w w') -> wpList Tryz.prog ops Q rest a w') : wpList Tryz.prog ops Q (o :: rest) a w := by
 unfold wpList; rw [if_pos hw]; refine .inl ?_; unfold Oper.wp; rw [ak4 a.eval o x y ho w gx p q r v0 v1 v2 hx hy h]; show wpList Tryz.prog ops Q rest (a.put o.dst undef) _; rw [hd]; refine hk _ (aaC h _ _ _) (fun k hk => ?_) fun B hB => ?_
 · exact (Below.heap_setCell _ ⟨gx, 2, none⟩ _ k hk).trans ((Below.heap_setCell _ ⟨gx, 1, none⟩ _ k hk).trans (Below.heap_setCell _ ⟨gx, 0, none⟩ _ k hk))
 · exact (((Below.refl _ _).setCell (p := ⟨gx, 0, none⟩) hB _).setCell (p := ⟨gx, 1, none⟩) hB _).setCell (p := ⟨gx, 2, none⟩) hB _
section
variable {w : World} {g base cap c : Nat} {A : Option Addr} {bs : List UInt8} {H : Hp}
theorem ahI (h : Ar w 79 g base cap A c bs) (hbase : base <= 4611686018427387904) (hcap : cap <= 16384) (hc : H.cap = cap) (hR : Rt bs H) {A1 B1 : List Bk} {p n : Option Bk} {xo xs : Nat}
 (hb : H.blks = (A1 ++ p.toList) ++ ⟨xo, xs, true⟩ :: (n.toList ++ B1)) (hN : aiz A1 p n B1) :
 Calls Tryz.prog 87 #[.pointer (some ⟨g, 0, none⟩), .agg #[.int .i64 (xo : Int), .int .i64 (xs : Int), .bool true]] w fun e w' => e = .returned .nilIface /\ ∃ out, Became 79 g base cap A out w w' /\ Rt out (H.give (A1 ++ p.toList).length) /\
  ∀ z ∈ H.blks, z.used = true -> z ≠ ⟨xo, xs, true⟩ -> ∀ i, Pay z i -> out[i]? = bs[i]? := by
 obtain ⟨b1, b2, out, e1, e2, e3, e4, l1, l2, l3, l4, hRo, hP⟩ := hR.gives (by omega) hb hN rfl; have hM := hR.md (by omega); obtain ⟨hl, hbd⟩ := hR.bound (by omega); have y1 := hM.behind hb hN; have y2 := hM.ahead hb hN; have hx := hbd ⟨xo, xs, true⟩ (by rw [hb]; simp); have hn : ∀ z, n = some z -> 0 < z.size /\ z.off <= 16384 := fun z hz => by have := hbd z (by rw [hb, hz]; simp); omega
 have hp : ∀ z, p = some z -> 0 < z.size /\ z.off <= 16384 := fun z hz => by have := hbd z (by rw [hb, hz]; simp); omega
 have r3 := aj5 e3; obtain ⟨s3, hs3⟩ := nmE (abJ b2 (ads p ⟨xo, xs, true⟩ n)); rw [hs3] at e3 e4 l3; obtain ⟨wo, hwo⟩ := nmE ((ads p ⟨xo, xs, true⟩ n).off); obtain ⟨ws, hws⟩ := nmE ((ads p ⟨xo, xs, true⟩ n).size); rw [hwo, hws] at e3 r3; rw [hwo] at e4; have f1 := aeE ((xo : Int) + (xs : Int)) n; have f2 := aeE (xo : Int) p; obtain ⟨no, hno⟩ : ∃ no : Int, (n.map fun z => (z.off : Int)).getD ((xo : Int) + (xs : Int)) = no := ⟨_, rfl⟩; obtain ⟨nz, hnz⟩ := nmE ((n.map Bk.size).getD 0); obtain ⟨pz, hpz⟩ := nmE ((p.map Bk.size).getD 0); have hpo : (p.map fun z => (z.off : Int)).getD (xo : Int) = (wo : Int) := by rw [<- hwo]; cases p <;> rfl
 rw [hno, hnz] at f1; rw [hpo, hpz] at f2; have hwe : ws = pz + xs + nz := by rw [<- hws, <- hpz, <- hnz]; rfl
 dsimp only at y1 y2 hx; obtain ⟨w1, hw1⟩ := nmE (w.alloc (.cells #[.int .i64 (xo : Int), .int .i64 (xs : Int), .bool true] 81)); have hb1 := abE hw1; have n1 := anE hw1; have N1 := hE0 n1; have BC0 : Became 79 g base cap A bs w w := ⟨A, c, h, Tch.refl _ _, .inl rfl⟩; have BC1 := hE0 (aaP BC0 hb1.drew); clear BC0; obtain ⟨⟨d0, d1, d2⟩, _⟩ := aad n1; have hlt1 := aab n1; have HW1 := hE0 hw1; clear hw1 hb1 n1 h; have HH := hE0 (show ∀ w', Became 79 g base cap A out w w' -> ((Ending.returned .nilIface : Ending) = .returned .nilIface /\ ∃ out, Became 79 g base cap A out w w' /\ Rt out (H.give (A1 ++ p.toList).length) /\ ∀ z ∈ H.blks, z.used = true -> z ≠ ⟨xo, xs, true⟩ -> ∀ i, Pay z i -> out[i]? = bs[i]?) from fun w' hh => ⟨rfl, out, hh, hRo, hP⟩); clear hRo hP hM hbd hb hN hR; go_enter Tryz.func87, Tryz.ntmps87
 go_wp2_with (first | (rw [HW1.out]) | fail)
 refine aiE w1.heap.size [0, 1, 2, 3, 4, 5, 7, 8, 9] (apN 6 10 11 12) [13, 14] (by kernel_rfl) (by kernel_rfl) (by kernel_rfl) (fun _ _ _ _ _ h => h) ?_; have q0 : ∀ z : LaterB w1.heap.size w1.drew, z.val.cell? ⟨w.heap.size, 0, none⟩ = some (.int .i64 (xo : Int)) := fun z => (z.ext.cell (p := ⟨w.heap.size, 0, none⟩) hlt1).trans d0; have q1 : ∀ z : LaterB w1.heap.size w1.drew, z.val.cell? ⟨w.heap.size, 1, none⟩ = some (.int .i64 (xs : Int)) := fun z => (z.ext.cell (p := ⟨w.heap.size, 1, none⟩) hlt1).trans d1; refine apH (l := ?seg1) ?hseg1 ?_
 case hseg1 => simp only [pick, lE1, lE2, lE3]; rfl
 repeat (go_big_quiet_step (fail))
 refine wpQuiet_nil ?_; clear q0 q1; refine alC (S := [7, 12, 14, 16]) (d1 := 13) (d2 := 17) (e1 := 5) (e2 := 6) (v1 := frV ((xo : Int) + (xs : Int)) n) (v2 := frV (xo : Int) p) (cs := #[.int .i64 0, .int .i64 0, .bool false]) (ty := 81) (w0 := w1.drew) ⟨?_, ?_, ?_, ?_, by decide, by decide, by decide, by decide, by decide, rfl, ?_⟩
 · refine ajC (vs := #[.pointer (some ⟨g, 0, none⟩), .int .i64 ((xo : Int) + (xs : Int))]) Tryz.call114 rfl (fun a ha => ?_) fun W hW => ?_
   · show [a.tmps.getD 7 undef, a.tmps.getD 12 undef] = _; rw [ha 7 (by decide), ha 12 (by decide)]; rfl
   · refine (apO (aaP BC1.out hW) hbase hl _ ⟨by omega, by omega⟩ n y1).mono ?_; rintro e w' ⟨h1, h2, h3⟩; exact ⟨h1, h3⟩
 · refine ajC (vs := #[.pointer (some ⟨g, 0, none⟩), .int .i64 (xo : Int)]) Tryz.call115 rfl (fun a ha => ?_) fun W hW => ?_
   · show [a.tmps.getD 14 undef, a.tmps.getD 16 undef] = _; rw [ha 14 (by decide), ha 16 (by decide)]; rfl
   · refine (am5 (aaP BC1.out hW) hbase hl _ ⟨by omega, by omega⟩ p y2).mono ?_; rintro e w' ⟨h1, h2, h3⟩; exact ⟨h1, h3⟩
 · exact ahF rfl rfl (fun _ => rfl) fun ρ w => ahs ρ _ rfl w
 · exact ahF rfl rfl (fun _ => rfl) fun ρ w => ahs ρ _ rfl w
 intro p1 p2 w5 k1 k2 kne m1 m2 hb5; rw [f1, f2]; unfold ac1; refine aqq (t := ?tl1) ?htl1 ?_
 case htl1 => simp only [pick, lE1, lE2, lE3]; rfl
 simp only [Act.put, lE4, lE5, lE6]; refine alD (gx := p1) (p := no) (q := (nz : Int)) (r := false) rfl rfl rfl rfl rfl m1 ?_; intro w6 n6 k6 b6; refine alD (gx := p2) (p := (wo : Int)) (q := (pz : Int)) (r := false) rfl rfl rfl rfl rfl ((k6 p2 (Ne.symm kne)).trans m2) ?_; intro w7 n7 k7 b7; have hb7 : Below w1.heap.size w1.drew w7 := (hb5.trans (b6 _ k1)).trans (b7 _ k2); have n6 := (k7 p1 kne).trans n6; have nb := (hb7.block w.heap.size hlt1).trans N1.out; have BC7 := hE0 (aaP BC1.out hb7); have h1 := ajD BC7.out hbase hl ((xo : Int) + (xs : Int)) n hn e1; rw [f1] at h1; have H1 := hE0 h1; have K1 := hE0 k1; have K2 := hE0 k2; have KN := hE0 kne; clear h1 hb5 hb7 k6 k7 b6 b7 m1 m2 d0 d1 d2 k1 k2 kne; have NB := hE0 nb; have N6 := hE0 n6; have N7 := hE0 n7; obtain ⟨⟨c0, c1, c2⟩, _⟩ := aad n6; clear nb n6 n7; have hlt6 := aaa N6.out; go_wp2_with fail
 refine H1.out.mono ?_; clear c0 c1 c2 hlt6; rintro e w8 ⟨rfl, hB8, hL8⟩; have n6 := hL8 _ _ N6.out; have n7 := hL8 _ _ N7.out; have nb := hL8 _ _ NB.out; have h2 := ajD hB8 hbase (by omega) (xo : Int) p hp e2; rw [f2] at h2; have H2 := hE0 h2; clear N6 N7 NB BC7 BC1 h2 hL8 hB8 H1; have NB := hE0 nb; have N6 := hE0 n6; have N7 := hE0 n7; obtain ⟨⟨c0, c1, c2⟩, _⟩ := aad n7; clear nb n6 n7; have hlt7 := aaa N7.out; go_wp2_with fail
 refine H2.out.mono ?_; clear c0 c1 c2 hlt7; rintro e w9 ⟨rfl, hB9, hL9⟩; have n6 := hL9 _ _ N6.out; have n7 := hL9 _ _ N7.out; have nb := hL9 _ _ NB.out; have h3 := af1 hB9 hbase (by omega) wo ws false (by omega) (by omega) e3; rw [hwe, Int.natCast_add, Int.natCast_add] at h3; have H3 := hE0 h3; clear N6 N7 NB h3 hL9 hB9 H2; have N7 := hE0 n7; obtain ⟨⟨c0, c1, c2⟩, _⟩ := aad n7; obtain ⟨⟨d0, d1, d2⟩, _⟩ := aad nb; obtain ⟨⟨g0, g1, g2⟩, _⟩ := aad n6; have hlt7 := aaa n7; have hlt6 := aaa n6; have hltb := aaa nb; clear nb n6 n7; go_wp2_with fail
 refine H3.out.mono ?_; clear c0 c1 c2 d0 d1 d2 g0 g1 g2 hlt7 hlt6 hltb; rintro e w10 ⟨rfl, hB10, hL10⟩; have n7 := hL10 _ _ N7.out; have h4 := apP hB10 hbase (by omega) wo (by omega) e4; have H4 := hE0 h4; clear N7 h4 hL10 hB10 H3; obtain ⟨⟨c0, c1, c2⟩, _⟩ := aad n7; have hlt7 := aaa n7; clear n7; go_wp2_with fail
 refine H4.out.mono ?_; clear c0 c1 c2 hlt7; rintro e w11 ⟨rfl, hB11, hL11⟩; have HB := hE0 hB11; clear hB11 hL11 H4; go_wp2
 go_ret
 exact ⟨rfl, (HH.out _ HB.out).2⟩
theorem alE {w1 : World} (h : Became 79 g base cap A bs w w1) (hbase : base <= 4611686018427387904) (hcap : cap <= 16384) (hc : H.cap = cap) (hR : Rt bs H) {A1 B1 : List Bk} {p n : Option Bk} {xo xs : Nat}
 (hb : H.blks = (A1 ++ p.toList) ++ ⟨xo, xs, true⟩ :: (n.toList ++ B1)) (hN : aiz A1 p n B1) :
 Calls Tryz.prog 87 #[.pointer (some ⟨g, 0, none⟩), .agg #[.int .i64 (xo : Int), .int .i64 (xs : Int), .bool true]] w1 fun e w2 => e = .returned .nilIface /\ ∃ out, Became 79 g base cap A out w w2 /\ Rt out (H.give (A1 ++ p.toList).length) /\
  ∀ z ∈ H.blks, z.used = true -> z ≠ ⟨xo, xs, true⟩ -> ∀ i, Pay z i -> out[i]? = bs[i]? := by
 obtain ⟨A', c', a, tc, k⟩ := h; refine (ahI a hbase hcap hc hR hb hN).mono ?_; rintro e w2 ⟨h1, out, h2, h3⟩; exact ⟨h1, out, Became.trans a tc k h2, h3⟩
end
section
variable {w w1 : World} {g base cap : Nat} {A : Option Addr} {bs : List UInt8} {H : Hp}
theorem alF (h : Became 79 g base cap A bs w w1) (hR : Rt bs H) {A0 B0 : List Bk} {xo xs s : Nat} (hb : H.blks = A0 ++ ⟨xo, xs, true⟩ :: B0) (hxo : xo <= 16384) (hxs : xs <= 16384) (hle : s <= xs) (hlt : xs < s + 32) :
 Calls Tryz.prog 118 #[.pointer (some ⟨g, 0, none⟩), .agg #[.int .i64 (xo : Int), .int .i64 (xs : Int), .bool true], .int .i64 (s : Int)] w1 fun e w2 => e = .returned .nilIface /\ ∃ out, Became 79 g base cap A out w w2 /\ Rt out (H.cut A0.length s) /\
  Held H bs (H.cut A0.length s) out /\ ∀ z ∈ H.blks, z.used = true -> z.off ≠ xo -> ∀ i, Pay z i -> out[i]? = bs[i]? := by
 obtain ⟨hR2, hH⟩ := hR.uncut hb hlt; have HRH := hE0 (show Rt bs (H.cut A0.length s) /\ Held H bs (H.cut A0.length s) bs /\ ∀ z ∈ H.blks, z.used = true -> z.off ≠ xo -> ∀ i, Pay z i -> bs[i]? = bs[i]? from ⟨hR2, hH, fun _ _ _ _ _ _ => rfl⟩); obtain ⟨wa, hwa⟩ := nmE (w1.alloc (.cells #[.int .i64 (xo : Int), .int .i64 (xs : Int), .bool true] 81)); have na := anE hwa; have BCa := abm h (.cells #[.int .i64 (xo : Int), .int .i64 (xs : Int), .bool true] 81); rw [hwa] at BCa; obtain ⟨wb, hwb⟩ := nmE (wa.alloc (.cells #[.int .i64 ((xo : Int) + (s : Int)), .int .i64 ((xs : Int) - (s : Int)), .bool true] 81)); have nb := anE hwb; have BCb := abm BCa (.cells #[.int .i64 ((xo : Int) + (s : Int)), .int .i64 ((xs : Int) - (s : Int)), .bool true] 81); rw [hwb] at BCb; have HB := hE0 BCb; have HWA := hE0 hwa; have HWB := hE0 hwb; obtain ⟨⟨c0, c1, c2⟩, _⟩ := aad na; obtain ⟨⟨d0, d1, d2⟩, _⟩ := aad nb; have hlta := aaa na; have hltb := aaa nb; clear hR2 hH hR hwa hwb BCa BCb h na nb hb; go_enter Tryz.func118, Tryz.ntmps118
 go_wp2_with (first | (rw [HWA.out]) | (rw [HWB.out]) | fail)
 go_ret
 exact ⟨rfl, bs, HB.out, HRH.out.1, HRH.out.2.1, fun _ _ _ _ _ _ => rfl⟩
theorem aoW (h : Became 79 g base cap A bs w w1) (hbase : base <= 4611686018427387904) (hcap : cap <= 16384) (hc : H.cap = cap) (hR : Rt bs H) {A0 B0 : List Bk} {xo xs s : Nat} (hb : H.blks = A0 ++ ⟨xo, xs, true⟩ :: B0) (hs : aaG (s : Int) = true) (hle : s + 32 <= xs) :
 Calls Tryz.prog 118 #[.pointer (some ⟨g, 0, none⟩), .agg #[.int .i64 (xo : Int), .int .i64 (xs : Int), .bool true], .int .i64 (s : Int)] w1 fun e w2 => e = .returned .nilIface /\ ∃ out, Became 79 g base cap A out w w2 /\ Rt out (H.cut A0.length s) /\
  Held H bs (H.cut A0.length s) out /\ ∀ z ∈ H.blks, z.used = true -> z.off ≠ xo -> ∀ i, Pay z i -> out[i]? = bs[i]? := by
 obtain ⟨b1, b2, H1, A1, B1, p, n, e1, e2, l1, l2, hc1, hR1, hb1, hN, hcut, hP⟩ := hR.cutting (by omega) hb hs hle; obtain ⟨hl, hbd⟩ := hR.bound (by omega); have hx := hbd ⟨xo, xs, true⟩ (by rw [hb]; simp); dsimp only at hx; have hq := (aac _).1 hs; have HG := hE0 (fun w3 (h3 : Became 79 g base cap A b2 w w3) => alE h3 hbase hcap (by omega) hR1 hb1 hN); rw [hcut] at HG; have HP := hE0 hP; obtain ⟨wa, hwa⟩ := nmE (w1.alloc (.cells #[.int .i64 (xo : Int), .int .i64 (xs : Int), .bool true] 81)); have na := anE hwa; have BCa := abm h (.cells #[.int .i64 (xo : Int), .int .i64 (xs : Int), .bool true] 81); rw [hwa] at BCa; obtain ⟨wb, hwb⟩ := nmE (wa.alloc (.cells #[.int .i64 ((xo : Int) + (s : Int)), .int .i64 ((xs : Int) - (s : Int)), .bool true] 81)); have nb := anE hwb; have nab : wb.heap[w1.heap.size]? = some (.cells #[.int .i64 (xo : Int), .int .i64 (xs : Int), .bool true] 81 (0, 0)) := by rw [<- hwb]; exact (heap_alloc_old _ _ (aab na)).trans na
 have BCb := abm BCa (.cells #[.int .i64 ((xo : Int) + (s : Int)), .int .i64 ((xs : Int) - (s : Int)), .bool true] 81); rw [hwb] at BCb; have hsz : w.heap.size <= w1.heap.size := by obtain ⟨_, _, _, ht, _⟩ := h; exact ht.size
 obtain ⟨wc, hwc⟩ := nmE (wb.setCell ⟨w1.heap.size, 1, none⟩ (.int .i64 (s : Int))); have nac := heap_setCell_same wb w1.heap.size 1 _ _ (.int .i64 (s : Int)) nab; have nbc := (Below.heap_setCell wb ⟨w1.heap.size, 1, none⟩ (.int .i64 (s : Int)) wa.heap.size (fun e => by have := aab na; have e : wa.heap.size = w1.heap.size := e; omega)).trans nb; have BCc := af0 BCb nab hsz 1 (.int .i64 (s : Int)); rw [hwc] at nac nbc BCc; have nac : wc.heap[w1.heap.size]? = some (.cells #[.int .i64 (xo : Int), .int .i64 (s : Int), .bool true] 81 (0, 0)) := nac; have h1 := af1 BCc hbase hl xo s true (by omega) (by omega) e1; have H1' := hE0 h1; have E2 := hE0 e2; have NBC := hE0 nbc; have HWA := hE0 hwa; have HWB := hE0 hwb; have HWC := hE0 hwc; have NAC := hE0 nac; obtain ⟨⟨d0, d1, d2⟩, _⟩ := aad nb; obtain ⟨⟨u0, u1, u2⟩, _⟩ := aad na; obtain ⟨⟨c0, c1, c2⟩, f0, f1, f2⟩ := aad nab; obtain ⟨⟨g0, g1, g2⟩, _⟩ := aad nac; have hlta := aaa na; have hltb := aaa nb; have hltc := aaa nab; clear hR hwa hwb hwc BCa BCb BCc h na nb nab nac nbc hb hR1 hb1 hN hcut hP h1 e1 e2 hbd; go_enter Tryz.func118, Tryz.ntmps118
 go_wp2_with (first | (rw [HWA.out]) | (rw [HWB.out]) | (rw [HWC.out]) | fail)
 refine H1'.out.mono ?_; clear d0 d1 d2 u0 u1 u2 c0 c1 c2 f0 f1 f2 g0 g1 g2 hlta hltb hltc; rintro e wd ⟨rfl, hB1, hL1⟩; have nb := hL1 _ _ NBC.out; have h2 := af1 hB1 hbase (by omega) (xo + s) (xs - s) true (by omega) (by omega) E2.out; have en : ((xo + s : Nat) : Int) = (xo : Int) + (s : Int) := Int.natCast_add _ _; have em : ((xs - s : Nat) : Int) = (xs : Int) - (s : Int) := Int.ofNat_sub (by omega); rw [en, em] at h2; have H2 := hE0 h2; have EN := hE0 en; have EM := hE0 em; have NB := hE0 nb; clear hB1 hL1 NBC NAC HWA HWB HWC H1' h2 E2 en em; obtain ⟨⟨d0, d1, d2⟩, _⟩ := aad nb; have hltb := aaa nb; clear nb; go_wp2_with fail
 refine H2.out.mono ?_; clear d0 d1 d2 hltb; rintro e we ⟨rfl, hB2, hL2⟩; have nb := hL2 _ _ NB.out; have h3 := HG.out we hB2; rw [EN.out, EM.out] at h3; have H3 := hE0 h3; clear hB2 hL2 NB H2 h3 HG; obtain ⟨⟨d0, d1, d2⟩, _⟩ := aad nb; have hltb := aaa nb; clear nb; go_wp2_with fail
 refine H3.out.mono ?_; clear d0 d1 d2 hltb; rintro e wf ⟨rfl, out, hB, hR, hP⟩; have HB := hE0 hB; have HR := hE0 hR; have HPP := hE0 (HP.out out hP); clear hB hR hP H3 HP; go_wp2
 go_ret
 exact ⟨rfl, out, HB.out, HR.out, HPP.out.1, HPP.out.2⟩
theorem alG (h : Became 79 g base cap A bs w w1) (hbase : base <= 4611686018427387904) (hcap : cap <= 16384) (hc : H.cap = cap) (hR : Rt bs H) {A0 B0 : List Bk} {xo xs s : Nat} (hb : H.blks = A0 ++ ⟨xo, xs, true⟩ :: B0) (hs : aaG (s : Int) = true) (hle : s <= xs) :
 Calls Tryz.prog 118 #[.pointer (some ⟨g, 0, none⟩), .agg #[.int .i64 (xo : Int), .int .i64 (xs : Int), .bool true], .int .i64 (s : Int)] w1 fun e w2 => e = .returned .nilIface /\ ∃ out, Became 79 g base cap A out w w2 /\ Rt out (H.cut A0.length s) /\
  Held H bs (H.cut A0.length s) out /\ ∀ z ∈ H.blks, z.used = true -> z.off ≠ xo -> ∀ i, Pay z i -> out[i]? = bs[i]? := by
 obtain ⟨hl, hbd⟩ := hR.bound (by omega); have hx := hbd ⟨xo, xs, true⟩ (by rw [hb]; simp); dsimp only at hx; by_cases hlt : xs < s + 32
 · exact alF h hR hb (by omega) (by omega) hle hlt
 · exact aoW h hbase hcap hc hR hb hs (by omega)
end
theorem agP {l : List Bk} {e : Nat} (ht : abU 184 l e) {j : Nat} {x : Bk} {o : Int} (hx : l[j]? = some x) (ho : (x.off : Int) = o) (hu : x.used = true) : (aaK l o).map (aag l) = some x := by
 have hxm := List.mem_of_getElem? hx; obtain ⟨i, h1, h2, h3⟩ := anW ht hxm; unfold aaK; rw [<- ho, h1]; dsimp only; rw [h3, hu, if_pos rfl, Option.map_some, h3]
theorem ahJ {l : List Bk} {o : Int} (h : ∀ (i : Nat) (x : Bk), l[i]? = some x -> ¬((x.off : Int) = o /\ x.used = true)) : aaK l o = none := by
 unfold aaK
 cases hi : atB o l with
 | none => rfl
 | some i =>
  obtain ⟨x, h1, h2⟩ := ab6 hi; dsimp only; rw [if_neg]; intro hu; rw [abo h1] at hu; exact h i x h1 ⟨h2, hu⟩
theorem adZ {l : List Bk} {o : Int} {i : Nat} (h : aaK l o = some i) : i < l.length /\ ((aag l i).off : Int) = o /\ (aag l i).used = true := by
 unfold aaK at h
 cases hi : atB o l with
 | none => rw [hi] at h; cases h
 | some k =>
  rw [hi] at h; dsimp only at h; split at h
  · rename_i hu; injection h with h; subst h; obtain ⟨x, h1, h2⟩ := ab6 hi; exact ⟨aa5 h1, by rw [abo h1]; exact h2, hu⟩
  · cases h
theorem agQ {B : Nat} {w w' : World} (h : Below B w w') {b j : Nat} {v : Value} (hc : w.cell? ⟨b, j, none⟩ = some v) (hb : b < B) : w'.cell? ⟨b, j, none⟩ = some v :=
 (h.cell (p := ⟨b, j, none⟩) hb).trans hc
theorem am6 : aqu := by
 intro w g base cap c A bs H o h hb hcap hc hR ho; obtain ⟨l, hl⟩ := nmE H.blks; rw [hl]; have hwk := hR.walk; rw [hl] at hwk; have ht := (aaq hwk).2.1; have hbl := (hR.bound (by omega)).1; have hll := ahk hwk; obtain ⟨y, hy⟩ := nmE ((aaK l o).map (aag l)); rw [hy]; have HHIT : Hid (∀ (j : Nat) (x : Bk), l[j]? = some x -> (x.off : Int) = o -> x.used = true -> some x = y) := fun j x hx ho hu => by rw [<- hy]; exact (agP ht hx ho hu).symm
 have HMISS : Hid ((∀ (i : Nat) (x : Bk), l[i]? = some x -> ¬((x.off : Int) = o /\ x.used = true)) -> none = y) := fun hm => by rw [<- hy, ahJ hm]; rfl
 obtain ⟨w1, hw1⟩ := nmE (w.alloc (.cells #[.int .i64 0, .int .i64 0, .bool false] 81)); have hb1 := abE hw1; have hn1 := anE hw1; have hW := afw w1 g base cap c A bs _ (h.below hb1) hb hbl hwk; dsimp only [ac8, Option.isSome, Option.getD, aaz] at hW; have HW := hE0 hW; have HW1 := hE0 hw1; have HB1 := hE0 hb1; have HN1 := hE0 hn1; clear hW hw1 hb1 hn1 h hR hwk ht hy hl hb hcap hc; go_enter Tryz.func85, Tryz.ntmps85
 go_wp2_with fail
 rw [HW1.out]
 with_reducible refine HW.out.mono ?_
 rintro e w2 ⟨A2, c2, rfl, ho2, hb2⟩; have hcl : l.length <= c2 /\ c2 <= 9223372036854775807 := by
  rcases ho2.2 with ⟨h', h0⟩ | ⟨_, _, _, h', _, _, h1, h2, _⟩
  · injection h' with _ _ e; rw [h0, e]; omega
  · injection h' with _ _ e; unfold maxLen at h2; omega
 have HR := hE0 (BkRd.of_own ho2); have HB2 := hE0 (HB1.out.trans (hb2.mono HB1.out.size)); have HN2 := hE0 ((hb2.block w.heap.size (aab HN1.out)).trans HN1.out); clear ho2 hb2 HW HN1 HB1; go_wp2
 go_loopw [21] (fun t wr => ∃ j : Nat, t = .int .i64 (j : Int) /\ j <= l.length /\ (∀ (i : Nat) (x : Bk), i < j -> l[i]? = some x -> ¬((x.off : Int) = o /\ x.used = true)) /\ Below w2.heap.size w2 wr) (fun t _ => l.length - (intOf t).toNat)
 case atStart => exact ⟨0, rfl, Nat.zero_le _, fun i x hi => absurd hi (Nat.not_lt_zero _), Below.refl _ _⟩
 case round =>
  obtain ⟨j, rfl, hj, hno, hbe⟩ := hrel; have nl := (hbe.block w.heap.size (aab HN2.out)).trans HN2.out; have hfin := HB2.out.trans (hbe.mono HB2.out.size); by_cases hlt : j < l.length
  · obtain ⟨x, hx⟩ : ∃ x, l[j]? = some x := ⟨l[j], List.getElem?_eq_getElem hlt⟩; obtain ⟨b2, q, rfl, hbb, hcl2⟩ := HR.out (by omega); obtain ⟨p0, p1, p2⟩ := hcl2 j x hx; have r0 := agQ hbe p0 hbb; have r1 := agQ hbe p1 hbb; have r2 := agQ hbe p2 hbb; have HIT := hE0 (HHIT.out j x hx); have HNO : Hid (¬((x.off : Int) = o /\ x.used = true) -> ∀ (i : Nat) (z : Bk), i < j + 1 -> l[i]? = some z -> ¬((z.off : Int) = o /\ z.used = true)) := fun hx2 i z hi hz => by
     by_cases hij : i < j
     · exact hno i z hij hz
     · obtain rfl : i = j := by omega
       rw [hx] at hz; injection hz with hz; rw [<- hz]; exact hx2
    obtain ⟨xo, xs, xu⟩ := x; dsimp only at p0 p1 p2 r0 r1 r2; obtain ⟨w4, hw4⟩ := nmE (wr.alloc (.cells #[.int .i64 (xo : Int), .int .i64 (xs : Int), .bool xu] 81)); have hb4 : Below w2.heap.size w2 w4 := by rw [<- hw4]; exact hbe.alloc hbe.size _
    have n4 := anE hw4; have nl4 : w4.heap[w.heap.size]? = some (.cells #[.int .i64 0, .int .i64 0, .bool false] 81 (0, 0)) := by rw [<- hw4]; exact (heap_alloc_old _ _ (aab nl)).trans nl
    have hf4 : Below w.heap.size w w4 := by rw [<- hw4]; exact hfin.alloc hfin.size _
    obtain ⟨⟨d0, d1, d2⟩, _⟩ := aad n4; have HW4 := hE0 hw4; have HB4 := hE0 hb4; have HF4 := hE0 hf4; have NL4 := hE0 nl4; have HNEQ := hE0 (show wr.heap.size ≠ w.heap.size from fun e => by have := aab nl; omega); clear hx hbe p0 p1 p2 hb4 n4 hw4 hcl2 hno nl nl4 hf4 hfin; by_cases hxo : (xo : Int) = o
    · have e1 : ((xo : Int) == o) = true := by rw [beq_iff_eq]; exact hxo
      cases xu with
      | true =>
       obtain rfl := HIT.out hxo rfl; obtain ⟨⟨c0, c1, c2⟩, f0, f1, f2⟩ := aad NL4.out; have hlt4 := aaa NL4.out; clear hxo HHIT HMISS HIT HNO; go_wp2_with (first | (rw [HW4.out]) | fail)
       (try simp only [Exit.inBlock, Exit.then])
       refine abM (x := .nilIface) (g := w.heap.size) (o := (xo : Int)) (s := (xs : Int)) (b := true) Tryz.results85 ?_ ?_ ?_ ?_ ?_
       · rfl
       · rfl
       · rfl
       · exact aaC NL4.out _ _ _
       · exact ⟨rfl, ((HF4.out.setCell (Nat.le_refl _) _).setCell (Nat.le_refl _) _).setCell (Nat.le_refl _) _⟩
      | false =>
       have HNO2 := hE0 (HNO.out (fun hh => by cases hh.2)); clear hxo HHIT HMISS HIT HNO; go_wp2_with (first | (rw [HW4.out]) | fail)
       go_roundw
       case rel => exact ⟨j + 1, by go_num, by omega, HNO2.out, HB4.out⟩
       case measure => simp only [intOf]; omega
    · have e1 : ((xo : Int) == o) = false := by rw [beq_eq_false_iff_ne]; exact hxo
      have HNO2 := hE0 (HNO.out (fun hh => hxo hh.1)); clear hxo HHIT HMISS HIT HNO; go_wp2_with (first | (rw [HW4.out]) | fail)
      go_roundw
      case rel => exact ⟨j + 1, by go_num, by omega, HNO2.out, HB4.out⟩
      case measure => simp only [intOf]; omega
  · obtain rfl := HMISS.out (fun i x hx => hno i x (by have := aa5 hx; omega) hx); have NL := hE0 nl; have HF := hE0 hfin; obtain ⟨⟨c0, c1, c2⟩, f0, f1, f2⟩ := aad NL.out; have hlt4 := aaa NL.out; clear hno hbe nl hfin HHIT HMISS; go_wp2
    (try simp only [Exit.inBlock, Exit.then])
    refine abM (x := .iface 67 (.int .i64 3)) (g := w.heap.size) (o := 0) (s := 0) (b := false) Tryz.results85 ?_ ?_ ?_ ?_ ?_
    · rfl
    · rfl
    · rfl
    · exact aaC NL.out _ _ _
    · exact ⟨rfl, ((HF.out.setCell (Nat.le_refl _) _).setCell (Nat.le_refl _) _).setCell (Nat.le_refl _) _⟩
section
variable {w : World} {g base cap c : Nat} {A : Option Addr} {bs : List UInt8} {H : Hp}
theorem apQ : aqs := by
 intro w g base cap c A bs H o h hb hcap hc hR ho; have hU := am6 w g base cap c A bs H o h hb hcap hc hR ho; have BC := hE0 (show Became 79 g base cap A bs w w from ⟨A, c, h, Tch.refl _ _, .inl rfl⟩)
 cases hi : aaK H.blks o with
 | none =>
  have e : H.giveO o = none := by unfold Hp.giveO; rw [hi]; rfl
  rw [e]; rw [hi] at hU; dsimp only [aaL, bkV, Bk.val, Option.isSome, aaz, Option.map] at hU; dsimp only [acO, aaz]; have HU := hE0 hU; clear hU hi e h hR; go_enter Tryz.func57, Tryz.ntmps57
  go_wp2_with fail
  with_reducible refine HU.out.mono ?_
  rintro e w2 ⟨rfl, hb2⟩; have HB2 := hE0 (hb2.alloc hb2.size (.cells #[.int .i64 0, .int .i64 0, .bool false] 81)); clear hb2 HU; go_wp2
  go_ret
  exact ⟨rfl, HB2.out⟩
 | some i =>
  obtain ⟨h1, h2, h3⟩ := adZ hi; have e : H.giveO o = some (H.give i) := by unfold Hp.giveO; rw [hi]; rfl
  rw [e]; rw [hi] at hU; obtain ⟨m1, m2⟩ := aei h1; obtain ⟨A1, p, n, B1, eA, eB, hN⟩ := aiA (H.blks.take i) (H.blks.drop (i + 1)); obtain ⟨x, hx⟩ := nmE (aag H.blks i); rw [hx] at m1 h2 h3; have hm : Option.map (aag H.blks) (some i) = some x := by rw [<- hx]; rfl
  rw [hm] at hU; obtain ⟨xo, xs, xu⟩ := x; dsimp only at h2 h3; subst h3; dsimp only [aaL, bkV, Bk.val, Option.isSome, aaz] at hU; dsimp only [acO, aaz]; have hbk : H.blks = (A1 ++ p.toList) ++ ⟨xo, xs, true⟩ :: (n.toList ++ B1) := by rw [<- eA, <- eB]; exact m1
  have hlen : (A1 ++ p.toList).length = i := by rw [<- eA]; exact m2
  have HG := hE0 (fun w2 (hB : Became 79 g base cap A bs w w2) => alE hB hb hcap hc hR hbk hN); have HHELD := hE0 (fun out hP => hR.gave (by omega) hbk hN (out := out) hP); rw [hlen] at HG HHELD; have HU := hE0 hU; clear hU hi e h hR eA eB hN hbk m1 m2 hm hx h2; go_enter Tryz.func57, Tryz.ntmps57
  go_wp2_with fail
  with_reducible refine HU.out.mono ?_
  rintro e w2 ⟨rfl, hb2⟩; obtain ⟨w3, hw3⟩ := nmE (w2.alloc (.cells #[.int .i64 (xo : Int), .int .i64 (xs : Int), .bool true] 81)); have n3 := anE hw3; have hb3 : Below w.heap.size w w3 := by rw [<- hw3]; exact hb2.alloc hb2.size _
  have HG3 := hE0 (HG.out w3 (aaP BC.out hb3)); obtain ⟨⟨d0, d1, d2⟩, _⟩ := aad n3; have hlt3 := aaa n3; have HW3 := hE0 hw3; clear hb2 HU HG BC hw3 n3 hb3; go_wp2_with (first | (rw [HW3.out]) | fail)
  refine HG3.out.mono ?_; clear d0 d1 d2 hlt3; rintro e w4 ⟨rfl, out, hB, hR, hP⟩; have HB := hE0 hB; have HR := hE0 hR; have HH := hE0 (HHELD.out out hP); clear hB hR hP HG3 HHELD; go_wp2
  go_ret
  exact ⟨rfl, out, HB.out, HR.out, HH.out⟩
theorem apR : aqt := by
 intro w g base cap c A bs H o s h hb hcap hc hR ho hsr; have hC := ahp w s hsr; constructor
 · intro hs; have e : aar s = -1 := by simp [aar, hs]
   rw [e] at hC; dsimp only [aaz]; have HC := hE0 hC; clear hC e hs h hR; go_enter Tryz.func88, Tryz.ntmps88
   go_wp2_with fail
   with_reducible refine HC.out.mono ?_
   rintro e w2 ⟨rfl, hb2⟩; have HB2 := hE0 hb2; clear hb2 HC; go_wp2
   go_ret
   exact ⟨rfl, HB2.out⟩
 · intro hs; have hq := (aac _).1 hs; obtain ⟨n, rfl⟩ : ∃ n : Nat, s = (n : Int) := ⟨s.toNat, by omega⟩; rw [Int.toNat_natCast]; obtain ⟨k, hk, hk2⟩ := abb (x := ⟨0, n, false⟩) hs; have hk : aar (n : Int) = (k : Int) := hk; rw [hk] at hC; have HC := hE0 hC; have BC := hE0 (show Became 79 g base cap A bs w w from ⟨A, c, h, Tch.refl _ _, .inl rfl⟩); have HU := hE0 (fun w1 (hB : Below w.heap.size w w1) => am6 w1 g base cap c A bs H o (h.below hB) hb hcap hc hR ho)
   cases hi : aaK H.blks o with
   | none =>
    have e : H.trimO o n = none := by unfold Hp.trimO; rw [hi]
    rw [e]; rw [hi] at HU; dsimp only [aaL, bkV, Bk.val, Option.isSome, aaz, Option.map] at HU; dsimp only [acO, aaz]; clear hC hi e h hR hk; go_enter Tryz.func88, Tryz.ntmps88
    go_wp2_with fail
    with_reducible refine HC.out.mono ?_
    rintro e w1 ⟨rfl, hb1⟩; have HU1 := hE0 (HU.out w1 hb1); have HB1 := hE0 hb1; clear hb1 HC HU; go_wp2_with fail
    with_reducible refine HU1.out.mono ?_
    rintro e w2 ⟨rfl, hb2⟩; have hb2' := HB1.out.trans (hb2.mono HB1.out.size); have HB2 := hE0 (hb2'.alloc hb2'.size (.cells #[.int .i64 0, .int .i64 0, .bool false] 81)); clear hb2 hb2' HU1; go_wp2
    go_ret
    exact ⟨rfl, HB2.out⟩
   | some i =>
    obtain ⟨h1, h2, h3⟩ := adZ hi; rw [hi] at HU; obtain ⟨m1, m2⟩ := aei h1; obtain ⟨x, hx⟩ := nmE (aag H.blks i); rw [hx] at m1 h2 h3; have hm : Option.map (aag H.blks) (some i) = some x := by rw [<- hx]; rfl
    rw [hm] at HU; have hxb := (hR.bound (by omega)).2 x (by rw [m1]; simp); have hbl := (hR.bound (by omega)).1; obtain ⟨xo, xs, xu⟩ := x; dsimp only at h2 h3 hxb; subst h3; dsimp only [aaL, bkV, Bk.val, Option.isSome, aaz] at HU; by_cases hlt : xs < n
    · have e : H.trimO o n = none := by unfold Hp.trimO; rw [hi]; dsimp only; rw [hx]; dsimp only; rw [if_pos hlt]
      rw [e]; dsimp only [acO, aaz]; have e2 : decide ((xs : Int) < (n : Int)) = true := decide_eq_true (by omega); clear hC hi e h hR hk m1 m2 hm hx h2; go_enter Tryz.func88, Tryz.ntmps88
      go_wp2_with fail
      with_reducible refine HC.out.mono ?_
      rintro e w1 ⟨rfl, hb1⟩; have HU1 := hE0 (HU.out w1 hb1); have HB1 := hE0 hb1; clear hb1 HC HU; go_wp2_with fail
      with_reducible refine HU1.out.mono ?_
      rintro e w2 ⟨rfl, hb2⟩; have hb2' := HB1.out.trans (hb2.mono HB1.out.size); have HB2 := hE0 (hb2'.alloc hb2'.size (.cells #[.int .i64 (xo : Int), .int .i64 (xs : Int), .bool true] 81)); clear hb2 hb2' HU1; go_wp2
      go_ret
      exact ⟨rfl, HB2.out⟩
    · have e : H.trimO o n = some (H.cut i n) := by unfold Hp.trimO; rw [hi]; dsimp only; rw [hx]; dsimp only; rw [if_neg hlt]
      rw [e]; dsimp only [acO, aaz]; have HG := hE0 (fun w2 (hB : Became 79 g base cap A bs w w2) => alG hB hb hcap hc hR m1 hs (Nat.le_of_not_lt hlt)); rw [m2] at HG; have e2 : decide ((xs : Int) < (n : Int)) = false := decide_eq_false (by omega); clear hC hi e h hR hk m1 m2 hm hx h2; go_enter Tryz.func88, Tryz.ntmps88
      go_wp2_with fail
      with_reducible refine HC.out.mono ?_
      rintro e w1 ⟨rfl, hb1⟩; have HU1 := hE0 (HU.out w1 hb1); have HB1 := hE0 hb1; clear hb1 HC HU; go_wp2_with fail
      with_reducible refine HU1.out.mono ?_
      rintro e w2 ⟨rfl, hb2⟩; have hb2' := HB1.out.trans (hb2.mono HB1.out.size); obtain ⟨w3, hw3⟩ := nmE (w2.alloc (.cells #[.int .i64 (xo : Int), .int .i64 (xs : Int), .bool true] 81)); have n3 := anE hw3; have hb3 : Below w.heap.size w w3 := by rw [<- hw3]; exact hb2'.alloc hb2'.size _
      have HG3 := hE0 (HG.out w3 (aaP BC.out hb3)); obtain ⟨⟨d0, d1, d2⟩, _⟩ := aad n3; have hlt3 := aaa n3; have HW3 := hE0 hw3; clear hb2 hb2' HU1 HG BC hw3 n3 hb3; go_wp2_with (first | (rw [HW3.out]) | fail)
      refine HG3.out.mono ?_; clear d0 d1 d2 hlt3; rintro e w4 ⟨rfl, out, hB, hR, hH, _⟩; have HB := hE0 hB; have HR := hE0 hR; have HH := hE0 hH; clear hB hR hH HG3; go_wp2
      go_ret
      exact ⟨rfl, out, HB.out, HR.out, HH.out⟩
end
section
variable {w w1 : World} {g base cap c : Nat} {A : Option Addr} {bs : List UInt8} {H : Hp}
theorem ahK (h : Became 79 g base cap A bs w w1) (hbase : base <= 4611686018427387904) (hcap : cap <= 16384) (hc : H.cap = cap) (hR : Rt bs H) {A0 B0 : List Bk} {xo xs s : Nat} (hb : H.blks = A0 ++ ⟨xo, xs, false⟩ :: B0) (hs : aaG (s : Int) = true) (hle : s <= xs) :
 Calls Tryz.prog 113 #[.pointer (some ⟨g, 0, none⟩), .int .i64 (xo : Int), .int .i64 (s : Int)] w1 fun e w2 => e = .returned .nilIface /\ ∃ out, Became 79 g base cap A out w w2 /\ Rt out ((H.out A0.length).cut A0.length s) /\ Held H bs ((H.out A0.length).cut A0.length s) out := by
 obtain ⟨b1, e1, e2, l1, l2, hblk, hR2, hP⟩ := hR.uses (by omega) hb rfl; dsimp only at e1 e2 l2 hblk hR2 hP; obtain ⟨b2, hb2⟩ := nmE (abJ b1 ⟨xo, xs, true⟩); rw [hb2] at e2 l2 hR2 hP; have hM := hR.md (by omega); obtain ⟨hl, hbd⟩ := hR.bound (by omega); have hxm : (⟨xo, xs, false⟩ : Bk) ∈ H.blks := by rw [hb]; simp
 have hx := hbd _ hxm; dsimp only at hx; have hat : frO (abt bs (xo : Int)) = some ⟨xo, xs, false⟩ := by
  have := hM.ls.st.at_ _ hxm; dsimp only at this; rw [this]; rfl
 have hcut : ((H.out A0.length).use A0.length true).cut A0.length s = (H.out A0.length).cut A0.length s := aoK (by show A0.length < H.blks.length; rw [hb]; simp); have h1 := apO h hbase hl (xo : Int) (by omega) _ hat; dsimp only [frV] at h1; have H1 := hE0 h1; have HSZ := hE0 (show w.heap.size <= w1.heap.size by obtain ⟨_, _, _, ht, _⟩ := h; exact ht.size); have HO := hE0 (fun w2 (hB : Became 79 g base cap A bs w w2) => ajD hB hbase hl (xo : Int) (some ⟨xo, xs, false⟩) (fun z hz => by cases hz; dsimp only; omega) (b2 := b1) e1); have HS := hE0 (fun w2 (hB : Became 79 g base cap A b1 w w2) => af1 hB hbase (by omega) xo xs true (by omega) (by omega) e2); have HC := hE0 (fun w2 (hB : Became 79 g base cap A b2 w w2) => alG hB hbase hcap (H := (H.out A0.length).use A0.length true) hc hR2 hblk hs hle); rw [hcut] at HC; have HH := hE0 (fun out => hR.usedHeld (by omega) hb (out := out) (H3 := (H.out A0.length).cut A0.length s) hblk hP); dsimp only [frV] at HO; clear h1 hcut hat hx hxm hbd hM hb2 e1 e2 hblk hR2 hP hR hb h; go_enter Tryz.func113, Tryz.ntmps113
 go_wp2_with fail
 with_reducible refine H1.out.mono ?_
 rintro e w2 ⟨rfl, hB2, hb2⟩; obtain ⟨w3, hw3⟩ := nmE (w2.alloc (.cells #[.int .i64 (xo : Int), .int .i64 (xs : Int), .bool false] 81)); have n3 := anE hw3; have B3 := abm hB2 (.cells #[.int .i64 (xo : Int), .int .i64 (xs : Int), .bool false] 81); rw [hw3] at B3; have HO3 := hE0 (HO.out w3 B3); have HLE := hE0 (Nat.le_trans HSZ.out hb2.size); obtain ⟨⟨d0, d1, d2⟩, _⟩ := aad n3; have hlt3 := aaa n3; have N3 := hE0 n3; have HW3 := hE0 hw3; clear hB2 hb2 H1 HO hw3 n3 B3 HSZ; go_wp2_with (first | (rw [HW3.out]) | fail)
 refine HO3.out.mono ?_; clear d0 d1 d2 hlt3; rintro e w4 ⟨rfl, hB4, hL4⟩; have n4 := hL4 _ _ N3.out; obtain ⟨w5, hw5⟩ := nmE (w4.setCell ⟨w2.heap.size, 2, none⟩ (.bool true)); have n5 := heap_setCell_same w4 w2.heap.size 2 _ _ (.bool true) n4; have B5 := af0 hB4 n4 HLE.out 2 (.bool true); rw [hw5] at n5 B5; have n5 : w5.heap[w2.heap.size]? = some (.cells #[.int .i64 (xo : Int), .int .i64 (xs : Int), .bool true] 81 (0, 0)) := n5; have HS5 := hE0 (HS.out w5 B5); obtain ⟨⟨c0, c1, c2⟩, f0, f1, f2⟩ := aad n4; have hlt4 := aaa n4; obtain ⟨⟨d0, d1, d2⟩, _⟩ := aad n5; have hlt5 := aaa n5; have N5 := hE0 n5; have HW5 := hE0 hw5; clear hB4 hL4 HO3 HS hw5 n4 n5 B5 N3; go_wp2_with (first | (rw [HW5.out]) | fail)
 refine HS5.out.mono ?_; clear c0 c1 c2 f0 f1 f2 hlt4 d0 d1 d2 hlt5; rintro e w6 ⟨rfl, hB6, hL6⟩; have n6 := hL6 _ _ N5.out; have HC6 := hE0 (HC.out w6 hB6); obtain ⟨⟨d0, d1, d2⟩, _⟩ := aad n6; have hlt6 := aaa n6; clear hB6 hL6 HS5 HC n6 N5; go_wp2_with fail
 refine HC6.out.mono ?_; clear d0 d1 d2 hlt6; rintro e w7 ⟨rfl, out, hB, hR, _, hP⟩; have HB := hE0 hB; have HR := hE0 hR; have HHH := hE0 (HH.out out hP); clear hB hR hP HC6 HH; go_wp2
 go_ret
 exact ⟨rfl, out, HB.out, HR.out, HHH.out⟩
theorem ahL (h : Ar w 79 g base cap A c bs) (hbase : base <= 4611686018427387904) (hcap : cap <= 16384) (hl : bs.length <= cap) (p : Option Bk) (hp : frO (abT bs (bs.length : Int)) = p) (s z : Nat) (hz : (p.map Bk.size).getD 0 = z) (hzs : z <= s) (hs : s <= 16384) (hlt : cap < bs.length + (s - z)) :
 Calls Tryz.prog 112 #[.pointer (some ⟨g, 0, none⟩), .int .i64 (s : Int)] w fun e w' => e = .returned (.tuple #[.int .i64 0, aaz false 5]) /\ Below w.heap.size w w' := by
 have HL := hE0 (abX h); have h1 := ade h hbase (by omega) (bs.length : Int) (by omega) p hp; rw [aeE, hz] at h1; obtain ⟨fo, hfo⟩ : ∃ fo : Int, (p.map fun z => (z.off : Int)).getD (bs.length : Int) = fo := ⟨_, rfl⟩; rw [hfo] at h1; have H1 := hE0 h1; have HG := hE0 (fun w2 (hB : Below w.heap.size w w2) => ahb (h.below hB) (s - z) hl hcap hlt); have e1 : ((s - z : Nat) : Int) = (s : Int) - (z : Int) := Int.ofNat_sub hzs; rw [e1] at HG; have hfz : z <= 16384 := by omega
 dsimp only [aaz]; clear h1 hfo hz h hp hlt e1; go_enter Tryz.func112, Tryz.ntmps112
 go_wp2_with fail
 with_reducible refine HL.out.mono ?_
 rintro e w1 ⟨rfl, rfl⟩; go_wp2_with fail
 with_reducible refine H1.out.mono ?_
 rintro e w2 ⟨rfl, hb2⟩; obtain ⟨w3, hw3⟩ := nmE (w2.alloc (.cells #[.int .i64 fo, .int .i64 (z : Int), .bool false] 81)); have n3 := anE hw3; have hb3 : Below w.heap.size w w3 := by rw [<- hw3]; exact hb2.alloc hb2.size _
 have HG3 := hE0 (HG.out w3 hb3); obtain ⟨⟨d0, d1, d2⟩, _⟩ := aad n3; have hlt3 := aaa n3; have HW3 := hE0 hw3; have HB3 := hE0 hb3; clear hb2 H1 HG HL hw3 n3 hb3; go_wp2_with (first | (rw [HW3.out]) | fail)
 refine HG3.out.mono ?_; clear d0 d1 d2 hlt3; rintro e w4 ⟨rfl, k, rfl⟩; have HB4 : Hid (Below w.heap.size w (w3.drewN k)) := ⟨HB3.out.os, HB3.out.tape, HB3.out.output, HB3.out.size, HB3.out.block⟩; clear HG3; go_wp2
 go_ret2
 exact ⟨rfl, HB4.out⟩
theorem agR (h : Ar w 79 g base cap A c bs) (hbase : base <= 4611686018427387904) (hcap : cap <= 16384) (hl : bs.length <= cap) (p : Option Bk) (hp : frO (abT bs (bs.length : Int)) = p) (s z o : Nat) (hz : (p.map Bk.size).getD 0 = z) (hzs : z <= s) (hs : s <= 16384) (ho : o <= 16384)
 (hfo : (p.map fun z => (z.off : Int)).getD (bs.length : Int) = (o : Int)) (hpz : ∀ y, p = some y -> 0 < y.size /\ y.off <= 16384) (hlt : bs.length + (s - z) <= cap) (b1 b2 : List UInt8) (e1 : alu (bs ++ List.replicate (s - z) 0) p = some b1) (hl1 : b1.length = bs.length + (s - z)) (e2 : adM b1 (o : Int) (s : Int) true = some b2) :
 Calls Tryz.prog 112 #[.pointer (some ⟨g, 0, none⟩), .int .i64 (s : Int)] w fun e w' => e = .returned (.tuple #[.int .i64 (o : Int), aaz true 5]) /\ Became 79 g base cap A b2 w w' := by
 have HL := hE0 (abX h); have h1 := ade h hbase (by omega) (bs.length : Int) (by omega) p hp; have ef := aeE (bs.length : Int) p; rw [hz, hfo] at ef; rw [ef] at h1; have H1 := hE0 h1; have BC := hE0 (show Became 79 g base cap A bs w w from ⟨A, c, h, Tch.refl _ _, .inl rfl⟩); have HG := hE0 (fun w2 (hB : Became 79 g base cap A bs w w2) => aoV hB (s - z) hl hcap hlt); have HO := hE0 (fun w2 (hB : Became 79 g base cap A (bs ++ List.replicate (s - z) 0) w w2) => ajD hB hbase (by rw [List.length_append, List.length_replicate]; omega) (bs.length : Int) p hpz e1); rw [ef] at HO; have hl1' : b1.length <= 16384 := by omega
 have HS := hE0 (fun w2 c' A' (a : Ar w2 79 g base cap A' c' b1) => aqQ w2 g base cap c' A' b1 (o : Int) (s : Int) true _ a hbase hl1' (by omega) (by omega) e2); dsimp only [amg, aaz] at HS; obtain ⟨bz, hbz⟩ := nmE (bs ++ List.replicate (s - z) 0); have e3 : ((s - z : Nat) : Int) = (s : Int) - (z : Int) := Int.ofNat_sub hzs; rw [hbz, e3] at HG; rw [hbz] at HO; have hfz : z <= 16384 := by omega
 dsimp only [aaz]; clear h1 hfo hz h hp hlt e3 ef e1 e2 hpz hl1 hl1' hbz; go_enter Tryz.func112, Tryz.ntmps112
 go_wp2_with fail
 with_reducible refine HL.out.mono ?_
 rintro e w1 ⟨rfl, rfl⟩; go_wp2_with fail
 with_reducible refine H1.out.mono ?_
 rintro e w2 ⟨rfl, hb2⟩; obtain ⟨w3, hw3⟩ := nmE (w2.alloc (.cells #[.int .i64 (o : Int), .int .i64 (z : Int), .bool false] 81)); have n3 := anE hw3; have hb3 : Below w.heap.size w w3 := by rw [<- hw3]; exact hb2.alloc hb2.size _
 have HG3 := hE0 (HG.out w3 (aaP BC.out hb3)); obtain ⟨⟨d0, d1, d2⟩, _⟩ := aad n3; have hlt3 := aaa n3; have HW3 := hE0 hw3; have N3 := hE0 n3; clear hb2 H1 HG HL hw3 n3 hb3 BC; go_wp2_with (first | (rw [HW3.out]) | fail)
 refine HG3.out.mono ?_; clear d0 d1 d2 hlt3; rintro e w4 ⟨rfl, hB4, hL4⟩; have n4 := hL4 _ _ N3.out; have HO4 := hE0 (HO.out w4 hB4); obtain ⟨⟨d0, d1, d2⟩, _⟩ := aad n4; have hlt4 := aaa n4; have N4 := hE0 n4; clear hB4 hL4 HG3 HO n4 N3; go_wp2_with fail
 refine HO4.out.mono ?_; clear d0 d1 d2 hlt4; rintro e w5 ⟨rfl, hB5, hL5⟩; have n5 := hL5 _ _ N4.out; obtain ⟨w6, hw6⟩ := nmE w5.drew; have n6 : w6.heap[w2.heap.size]? = some (.cells #[.int .i64 (o : Int), .int .i64 (z : Int), .bool false] 81 (0, 0)) := by rw [<- hw6]; exact n5
 have B6 : Became 79 g base cap A b1 w w6 := by rw [<- hw6]; exact aaP hB5 (Below.refl _ _).drew
 obtain ⟨A6, c6, a6, t6, k6⟩ := B6; have hnf := agO a6 n6; obtain ⟨⟨d0, d1, d2⟩, _⟩ := aad n6; have HS6 := hE0 (HS.out w6 c6 A6 a6); have HFIN := hE0 (fun w7 (hB : Became 79 g base cap A6 b2 w6 w7) => Became.trans a6 t6 k6 hB); have HNF := hE0 hnf; have HW6 := hE0 hw6; clear hB5 hL5 HO4 HS n5 N4 n6 a6 t6 k6 hw6 hnf; go_wp2_with fail
 refine abv (abg g A6) [([0, 1, 2, 3, 4, 5, 6], 7)] [8, 9] [] (by kernel_rfl) (by kernel_rfl) (by kernel_rfl) (fun _ _ _ _ _ h => h) ?_; rw [HW6.out]; clear HW6; have z0 : ∀ z : LaterS (abg g A6) w6, z.val.cell? ⟨w2.heap.size, 0, none⟩ = some (.int .i64 (o : Int)) := fun z => z.ext.cell d0 HNF.out; clear d0 d1 d2; refine ab4 (l := ?seg1) ?hseg1 ?_
 case hseg1 => simp only [pick, lE1, lE2, lE3]; rfl
 repeat (go_big_quiet_step (fail))
 refine wpQuiet_nil ?_; clear z0; refine acj (vs := #[.pointer (some ⟨g, 0, none⟩), .agg #[.int .i64 (o : Int), .int .i64 (s : Int), .bool true]]) Tryz.call117 rfl rfl rfl (R := fun r w' => r = .nilIface /\ Became 79 g base cap A6 b2 w6 w') (HS6.out.mono ?_) ?_
 · rintro e w' ⟨rfl, hB⟩; have hB' := hB; obtain ⟨_, _, _, ht, _⟩ := hB'; exact ⟨_, rfl, ht, rfl, hB⟩
 rintro r w7 _ ⟨rfl, hB7⟩; refine ⟨abg g A6, fun _ _ h => h, ?_⟩; refine ac4 (l := ?la4) (t := []) ?hla4 ?htl4 ?_
 case hla4 => simp only [pick, lE1, lE2, lE3]; rfl
 case htl4 => rfl
 simp only [Act.put, lE4, lE5, lE6]; repeat (go_big_quiet_step (fail))
 refine wpQuiet_nil ?_; have HB7 := hE0 (HFIN.out w7 hB7); clear hB7 HFIN HS6; go_wp2
 go_ret2
 exact ⟨rfl, HB7.out⟩
end
theorem aoX : aqr := by
 intro w g base cap c A bs H s h hb hcap hc hR hsr; obtain ⟨hbl, hbd⟩ := hR.bound (by omega); have hF := findC w g base cap c A bs s h hb hbl hsr; constructor
 · intro hs; unfold aip at hF; rw [if_neg (by rw [hs]; simp)] at hF; dsimp only [aaz] at hF ⊢; have HF := hE0 hF; clear hF hs h hR hbd; go_enter Tryz.func84, Tryz.ntmps84
   go_wp2_with fail
   with_reducible refine HF.out.mono ?_
   rintro e w2 ⟨rfl, hb2⟩; have HB2 := hE0 hb2; clear hb2 HF; go_wp2
   go_ret2
   exact ⟨rfl, HB2.out⟩
 · intro hs; have hq := (aac _).1 hs; unfold aip at hF; rw [if_pos hs] at hF; obtain ⟨n, rfl⟩ : ∃ n : Nat, s = (n : Int) := ⟨s.toNat, by omega⟩; rw [Int.toNat_natCast]; have hfi := hR.finds hs; rw [hfi] at hF; dsimp only [Option.getD, Option.isSome, aaz] at hF; have BC := hE0 (show Became 79 g base cap A bs w w from ⟨A, c, h, Tch.refl _ _, .inl rfl⟩)
   cases hi : H.find n with
   | some i =>
    obtain ⟨i1, i2, i3⟩ := hR.found hs hi; obtain ⟨m1, m2⟩ := aei i1; have et := am1 hi; obtain ⟨x, hx⟩ := nmE (aag H.blks i); rw [hi] at hF; dsimp only [Option.map] at hF; rw [hx] at m1 i2 i3 et hF; have hxb := hbd x (by rw [m1]; simp); obtain ⟨xo, xs, xu⟩ := x; dsimp only at i2 i3 hxb et hF; subst i3; rw [et]; dsimp only [acz, aaz]; have HT := hE0 (fun w2 (hB : Became 79 g base cap A bs w w2) => ahK hB hb hcap hc hR m1 hs i2); rw [m2] at HT; have HF := hE0 hF; have e0 : ((xo : Int) == 0) = false := by rw [beq_eq_false_iff_ne]; omega
    clear hF hfi hi et m1 m2 hx hR h hbd hs; go_enter Tryz.func84, Tryz.ntmps84
    go_wp2_with fail
    with_reducible refine HF.out.mono ?_
    rintro e w2 ⟨rfl, hb2⟩; have HT2 := hE0 (HT.out w2 (aaP BC.out hb2)); clear hb2 HF HT BC; go_wp2_with fail
    refine HT2.out.mono ?_; rintro e w4 ⟨rfl, out, hB, hR, hH⟩; have HB := hE0 hB; have HR := hE0 hR; have HH := hE0 hH; clear hB hR hH HT2; go_wp2
    go_ret2
    exact ⟨rfl, out, HB.out, HR.out, HH.out⟩
   | none =>
    obtain ⟨A0, p, b1, hpu, hfr, htl⟩ := hR.tail (by omega); have hlo := hR.lost hs hi; have hlen := hR.lenE; have hle := hR.len; have hM := hR.md (by omega); have ht := hM.tl; rw [b1, aaS] at ht; obtain ⟨t1, t2⟩ := ht; obtain ⟨o, ho⟩ := nmE (184 + abh A0); have hlen2 : bs.length = o + abh p.toList := by
     rw [<- hlen, b1, <- ho]; unfold lenB; rw [adD]; omega
    obtain ⟨z, hz⟩ := nmE (abh p.toList); have hpz : (p.map Bk.size).getD 0 = z := by rw [<- hz]; cases p <;> simp [abh]
    have hpo : ∀ y, p = some y -> y.off = 184 + abh A0 /\ 0 < y.size := fun y hy => by
     have hyb := hbd y (by rw [b1, hy]; simp); rw [hy] at t2; obtain ⟨t3, _⟩ := t2; exact ⟨t3, by omega⟩
    have hfo : (p.map fun z => (z.off : Int)).getD (bs.length : Int) = (o : Int) := by
     cases p with
     | none =>
      show (bs.length : Int) = (o : Int); rw [hlen2]; simp [abh]
     | some y =>
      show (y.off : Int) = (o : Int); rw [(hpo y rfl).1, ho]
    have hzn : z <= n := by
     rw [<- hz]
     cases p with
     | none => simp [abh]
     | some y =>
      have := hlo y (by rw [b1]; simp) (hpu y rfl); simp [abh]; omega
    rw [hi] at hF; dsimp only [Option.map] at hF; have htz : abk H.blks = z := htl.trans hz; by_cases hroom : cap < bs.length + (n - z)
    · have et := alv hi (by rw [htz, hlen, hc]; omega); rw [et]; dsimp only [acz]; have HT := hE0 (fun w2 (hB : Below w.heap.size w w2) => ahL (h.below hB) hb hcap (by omega) p hfr n z hpz hzn (by omega) hroom); dsimp only [aaz] at HT ⊢; have HF := hE0 hF; clear hF hfi hi et hR h hbd hs b1 hpu hfr htl htz hlo hlen hle hM t1 t2 ho hlen2 hz hpz hpo hfo hroom; go_enter Tryz.func84, Tryz.ntmps84
      go_wp2_with fail
      with_reducible refine HF.out.mono ?_
      rintro e w2 ⟨rfl, hb2⟩; have HT2 := hE0 (HT.out w2 hb2); have HB2 := hE0 hb2; clear hb2 HF HT BC; go_wp2_with fail
      refine HT2.out.mono ?_; rintro e w4 ⟨rfl, hb4⟩; have HB4 := hE0 (HB2.out.trans (hb4.mono HB2.out.size)); clear hb4 HT2 HB2; go_wp2
      go_ret2
      exact ⟨rfl, HB4.out⟩
    · obtain ⟨H', et, hb', hl', hc'⟩ := am2 hi (by rw [htz, hlen, hc]; omega) b1 htl hpo; rw [et]; dsimp only [acz]; obtain ⟨q1, e1, e2, l1, l2, hRt, hP⟩ := hR.adds (by omega) b1 hpu (o := o) (s := n) (n := n - z) ho.symm hs (by omega) (by omega); have hRR := hRt H' (by rw [hb', ho]) hl' hc'; have hHD : Held H bs H' (abJ q1 ⟨o, n, true⟩) := fun z hz hzu y _ _ _ i i1 i2 _ => hP z hz hzu i ⟨i1, i2⟩; rw [ho]; obtain ⟨b2, hb2⟩ := nmE (abJ q1 ⟨o, n, true⟩); rw [hb2] at e2 hRR hHD; have HT := hE0 (fun w2 (hB : Below w.heap.size w w2) => agR (h.below hB) hb hcap (by omega) p hfr n z o hpz hzn (by omega) (by omega) hfo (fun y hy => ⟨(hpo y hy).2, by have := (hpo y hy).1; omega⟩) (by omega) q1 b2 e1 l1 e2); dsimp only [aaz] at HT ⊢; have HF := hE0 hF; have HRR := hE0 hRR; have HHD := hE0 hHD; clear hF hfi hi et hR h hbd hs b1 hpu hfr htl htz hlo hlen hle hM t1 t2 ho hlen2 hz hpz hpo hfo hroom hb' hl' hc' e1 e2 l1 l2 hRt hP hRR hHD hb2; go_enter Tryz.func84, Tryz.ntmps84
      go_wp2_with fail
      with_reducible refine HF.out.mono ?_
      rintro e w2 ⟨rfl, hb2⟩; have HT2 := hE0 (HT.out w2 hb2); have HB2 := hE0 hb2; clear hb2 HF HT BC; go_wp2_with fail
      refine HT2.out.mono ?_; rintro e w4 ⟨rfl, hb4⟩; have HB4 := hE0 (hb4.after HB2.out); clear hb4 HT2 HB2; go_wp2
      go_ret2
      exact ⟨rfl, b2, HB4.out, HRR.out, HHD.out⟩
structure Al (wB W : World) (g base cap : Nat) (A : Option Addr) (c : Nat) (bs : List UInt8) (F : Nat -> Prop) (p : Nat) (H : Hp) : Prop where
 st : St wB W g base cap A c bs []
 hm : HM F W p H
 lo : ∀ k, F k -> wB.heap.size <= k
 hi : ∀ k, F k -> k < W.heap.size
 ap : ∀ k, F k -> ¬ abg g A k
section
variable {wB W W' : World} {g base cap c p : Nat} {A : Option Addr} {bs : List UInt8} {F : Nat -> Prop} {H : Hp}
theorem HM.tight {w : World} (h : HM F w p H) : ∃ F', HM F' w p H /\ (∀ k, F' k -> F k) /\ ∀ k, F' k -> k < w.heap.size := by
 obtain ⟨Vb, Vd, gl, cs, h⟩ := h; exact ⟨_, ⟨Vb, Vd, gl, cs, h.tight⟩, fun k hk => h.feetF hk, fun k hk => h.feet_lt hk⟩
theorem Al.below (h : Al wB W g base cap A c bs F p H) (hb : Below W.heap.size W W') : Al wB W' g base cap A c bs F p H :=
 ⟨h.st.below hb, h.hm.below hb, h.lo, fun k hk => Nat.lt_of_lt_of_le (h.hi k hk) hb.size, h.ap⟩
end
section
variable {F : Nat -> Prop} {w w' : World} {p gl : Nat} {H : Hp} {Vb Vd : Value} {cs : List Value}
end
section
variable {wB W : World} {g base cap c p : Nat} {A : Option Addr} {bs : List UInt8} {F : Nat -> Prop} {H : Hp}
theorem aej (HW : apy) (HA : aqR) (HC : anU) (a : Al wB W g base cap A c bs F p H) (rt : Rt bs H) (hcap : H.cap = cap) (hbase : base <= 4611686018427387904) (hc16 : cap <= 16384) (hd : H.Dl) :
 Calls Tryz.prog 18 #[.pointer (some ⟨g, 0, none⟩), .pointer (some ⟨p, 0, none⟩)] W fun e w' => e = .returned (.int .i64 1) /\ Below W.heap.size W w' := by
 have hlen : bs.length <= 16384 := Nat.le_trans (hcap ▸ rt.len) hc16; have hn512 := (rt.ok (hcap ▸ hc16) hd).n; have HWk := hE0 (HW W g base cap c A bs (some H.blks) a.st.ar hbase hlen rt.walk); have HLF := hE0 rt.few; have HAl := hE0 a; have HRT := hE0 rt; have HA := hE0 HA; have HC := hE0 HC; have HLEN := hE0 hlen; obtain ⟨n, hn⟩ := nmE H.blks.length; rw [hn] at hn512; have HN := hE0 hn; have HCAP := hE0 hcap; clear HW a rt hlen hn hcap hd; go_enter Tryz.func18, Tryz.ntmps18
 go_wp2_with fail
 refine HWk.out.mono ?_; rintro e w2 ⟨A7, c7, rfl, hown7, hb2⟩; clear HWk; dsimp only [Option.getD, Option.isSome, aaz] at hown7 ⊢; have a2 := HAl.out.below hb2; obtain ⟨wd, hwd⟩ := nmE w2.drew; have hbd := adE hwd; have ad := a2.below hbd; have hbD := hb2.trans (hbd.mono hb2.size); obtain ⟨Vb, Vd, gl, cs, hm⟩ := ad.hm; obtain ⟨A1, c1, rfl⟩ := aa0 hm.ob; have own7 := aay hown7 hbd; have hsm := aig wd A7 A1 c7 c1 H.blks (BkRd.of_own own7) (BkRd.of_own hm.ob) (by rw [HN.out]; omega); have k1 := hm.c1; have k0 := hm.c0; have hpd := hm.lt; rw [HCAP.out] at k0; rw [HN.out] at hsm k1 ⊢; have HSM := hE0 hsm; have HWD := hE0 hwd; have HD := hE0 ad; have HBD := hE0 hbD; clear hown7 hb2 a2 hwd hbd ad hbD hm own7 hsm; go_wp2_with fail
 refine aaf wd.heap.size [([0, 1, 2, 3, 4, 5, 6, 7], 8), ([9, 10, 11, 12, 14, 15, 16, 17], 13), ([18, 19, 20, 21], 22)] [23, 24] [] (by kernel_rfl) (by kernel_rfl) (by kernel_rfl) (fun _ _ _ _ _ h => h) ?_; rw [HWD.out]; have t1 := tfE k1 hpd; refine aaj (l := ?segA) ?hsegA ?_
 case hsegA => simp only [pick, lE1, lE2, lE3]; rfl
 repeat (go_big_quiet_step (fail))
 refine wpQuiet_nil ?_; clear t1 k1; refine aam (vs := #[.slice A7 n c7, .slice A1 n c1]) Tryz.call43 rfl rfl rfl (R := fun r w' => r = .int .i64 1) (HSM.out.mono ?_) wd.heap.size (Nat.le_refl _) ?_
 · rintro e w' ⟨rfl, hb⟩; exact ⟨_, rfl, hb, rfl⟩
 rintro r w3 hb3 rfl; have HB3 := hE0 hb3; have A3 := hE0 (HD.out.below hb3); have hs3 := hb3.size; clear HSM hb3; simp only [Act.put, lE4, lE5, lE6]; have t0 : ∀ z : LaterB wd.heap.size w3, z.val.cell? ⟨p, 0, none⟩ = some (.int .i64 (cap : Int)) := fun z => ((HB3.out.trans z.ext).cell (p := ⟨p, 0, none⟩) hpd).trans k0; refine aaj (l := ?segB) ?hsegB ?_
 case hsegB => simp only [pick, lE1, lE2, lE3]; rfl
 repeat (go_big_quiet_step (fail))
 refine wpQuiet_nil ?_; clear t0 k0; refine aam (vs := #[.pointer (some ⟨g, 0, none⟩)]) Tryz.call44 rfl rfl rfl (R := fun r w' => r = .int .i64 (cap : Int) /\ w' = w3) ((agh A3.out.st.ar).mono ?_) wd.heap.size (Nat.le_refl _) ?_
 · rintro e w' ⟨rfl, rfl⟩; exact ⟨_, rfl, Below.refl _ _, rfl, rfl⟩
 rintro r w4 _ ⟨rfl, rfl⟩; simp only [Act.put, lE4, lE5, lE6]; refine aaj (l := ?segC) ?hsegC ?_
 case hsegC => simp only [pick, lE1, lE2, lE3]; rfl
 repeat (go_big_quiet_step (fail))
 refine wpQuiet_nil ?_; refine aam (vs := #[.pointer (some ⟨g, 0, none⟩)]) Tryz.call45 rfl rfl rfl (R := fun r w' => r = .nilIface /\ Below w4.heap.size w4 w') ((HC.out w4 g base cap c A bs true A3.out.st.ar hbase HLEN.out HRT.out.chk).mono ?_) wd.heap.size (Nat.le_refl _) ?_
 · rintro e w' ⟨rfl, hb⟩; exact ⟨_, rfl, hb.mono hs3, rfl, hb⟩
 rintro r w5 _ ⟨rfl, hb5⟩; have A5 := hE0 (A3.out.below hb5); have B5 := hE0 (HBD.out.trans ((HB3.out.trans (hb5.mono hs3)).mono HBD.out.size)); clear hb5 HB3 A3 HD HC HBD HWD hpd hs3 HAl; simp only [Act.put, lE4, lE5, lE6]; refine aap (l := ?laD) (t := []) ?hlaD ?htlD ?_
 case hlaD => simp only [pick, lE1, lE2, lE3]; rfl
 case htlD => rfl
 repeat (go_big_quiet_step (fail))
 refine wpQuiet_nil ?_; go_wp2
 go_loopw [7] (fun i wr => ∃ d : Nat, i = .int .i64 (d : Int) /\ d <= 22 /\ Al wB wr g base cap A c bs F p H /\ Below W.heap.size W wr) (fun i _ => 22 - (intOf i).toNat)
 case atStart => exact ⟨0, rfl, by omega, A5.out, B5.out⟩
 case round =>
  obtain ⟨d, rfl, hd, ha, hb⟩ := hrel; clear A5 B5; have AR := hE0 ha; have BR := hE0 hb; clear ha hb; by_cases hd22 : d < 22
  · have hdi : (d : Int) < 22 := by omega
    have HAL := hE0 (HA.out wr g base cap c A bs d _ AR.out.st.ar hbase HLEN.out hd22 (HRT.out.all_ d hd22)); have hfw := HLF.out d hd22; go_wp2_with fail
    refine HAL.out.mono ?_; rintro e w6 ⟨A9, c9, rfl, hown, hb⟩; dsimp only [Option.getD, Option.isSome, aaz] at hown ⊢; have a6 := AR.out.below hb; obtain ⟨Vb, Vd, gl, cs, hm⟩ := a6.hm; obtain ⟨A2, c2, hcell, hlo⟩ := hm.lcell hd22; have q3 := hm.c3; have hsm := akV w6 A9 A2 c9 c2 (amt (H.lists d)) (agv hown rfl) (agv hlo rfl) (by rw [ajl]; omega); rw [ajl] at hsm; obtain ⟨M, hM⟩ := nmE ((H.lists d).length); rw [hM] at hsm hcell ⊢; have HSM := hE0 hsm; have A6 := hE0 a6; have B6 := hE0 (BR.out.trans (hb.mono BR.out.size)); clear hown hb a6 hm hlo hsm hM HAL AR BR hfw; go_wp2_with fail
    refine HSM.out.mono ?_; rintro e w7 ⟨rfl, hb⟩; have A7 := hE0 (A6.out.below hb); have B7 := hE0 (B6.out.trans (hb.mono B6.out.size)); clear hb HSM A6 B6 q3 hcell; go_wp2
    go_roundw
    case rel => exact ⟨d + 1, by go_num, by omega, A7.out, B7.out⟩
    case measure => simp only [intOf]; omega
  · go_wp2
    go_ret
    exact ⟨rfl, BR.out⟩
end
open Go.RowKit Go.Extern.Stop Go.Stop Go.Extern
theorem afl (v : Value) (w : World) : (Extern.ReflectliteType.typeOf #[.iface 67 v]).run Tryz.prog w = .ok (.iface 163 (.agg #[.pointer (some ⟨1, 67, none⟩)])) w := by kernel_rfl
def alH : Array Value -> Sem Value := Extern.ReflectliteType.method fun t => do Extern.Rtype.noPackHeld "Comparable" t; pure (.bool (<- typeInfo t).comparable)
theorem adu (w : World) : (alH #[.agg #[.pointer (some ⟨1, 67, none⟩)]]).run Tryz.prog w = .ok (.bool true) w := by kernel_rfl
theorem aeF (v : Value) (w : World) : (Go.method 318 163 v "Comparable").run Tryz.prog w = .ok (167, v) w := by kernel_rfl
theorem alI (v : Value) (xT : TypeId) (w : World) : (Instr.typeAssert (.iface 67 v) xT 180 true).run Tryz.prog w = .ok (.tuple #[.nilIface, .bool false]) w := run_typeAssert_lacksB Tryz.underlying180 (by kernel_rfl) (by kernel_rfl) v xT w
theorem agS (v : Value) (xT : TypeId) (w : World) : (Instr.typeAssert (.iface 67 v) xT 170 true).run Tryz.prog w = .ok (.tuple #[.nilIface, .bool false]) w := run_typeAssert_lacksB Tryz.underlying170 (by kernel_rfl) (by kernel_rfl) v xT w
theorem afA (v : Value) (xT : TypeId) (w : World) : (Instr.typeAssert (.iface 67 v) xT 172 true).run Tryz.prog w = .ok (.tuple #[.nilIface, .bool false]) w := run_typeAssert_lacksB Tryz.underlying172 (by kernel_rfl) (by kernel_rfl) v xT w
theorem aj6 (w : World) : (binOp .eql 27 (.iface 67 (.int .i64 1)) (.iface 67 (.int .i64 1))).run Tryz.prog w = .ok (.bool true) w := by kernel_rfl
theorem aj7 (w : World) : (binOp .eql 27 (.iface 67 (.int .i64 3)) (.iface 67 (.int .i64 1))).run Tryz.prog w = .ok (.bool false) w := by kernel_rfl
theorem aqv (w : World) :
 Calls Tryz.prog 89 #[.iface 67 (.int .i64 1), .iface 67 (.int .i64 1)] w fun e w' => e = .returned (.bool true) /\ w' = w := by
 have h8 := @run_callFunc_extern Tryz.prog 119 _ Extern.ReflectliteType.typeOf Tryz.func119 (by kernel_rfl) (by kernel_rfl) (by kernel_rfl) (by kernel_rfl); have h32 := @run_callFunc_extern Tryz.prog 167 _ alH Tryz.func167 (by kernel_rfl) (by kernel_rfl) (by kernel_rfl) (by kernel_rfl); have tT := afl; have cT := adu; have mR := aeF; have heq := aj6; go_enter Tryz.func89, Tryz.ntmps89
 go_wp2
 refine wp_loop_rounds 1 ?_; rw [rounds_succ]; go_wp2
 go_ret
 exact ⟨rfl, rfl⟩
theorem apS (w : World) :
 Calls Tryz.prog 89 #[.iface 67 (.int .i64 3), .iface 67 (.int .i64 1)] w fun e w' => e = .returned (.bool false) /\ w' = w := by
 have h8 := @run_callFunc_extern Tryz.prog 119 _ Extern.ReflectliteType.typeOf Tryz.func119 (by kernel_rfl) (by kernel_rfl) (by kernel_rfl) (by kernel_rfl); have h32 := @run_callFunc_extern Tryz.prog 167 _ alH Tryz.func167 (by kernel_rfl) (by kernel_rfl) (by kernel_rfl) (by kernel_rfl); have tT := afl; have cT := adu; have mR := aeF; have nE := alI; have uE := agS; have vE := afA; have heq := aj7; go_enter Tryz.func89, Tryz.ntmps89
 go_wp2
 refine wp_loop_rounds 1 ?_; rw [rounds_succ]; go_wp2
 go_ret
 exact ⟨rfl, rfl⟩
theorem adJ {P : Program} {ops : Array Oper} {Q : Exit -> Act -> World -> Prop} {i B : Nat} {o : Oper} {a : Act} {w : World} {K : Act -> World -> Prop} (ho : ops[i]? = some o) (d : Option Tmp) (hd : o.dst = d) (hw : Region.wanted o (yielded ops a.tmps) = false) (hk : K (a.put d undef) w) : wpOp P ops Q i (fun a'' w'' => Below B w w'' /\ K a'' w'') a w := by
 unfold wpOp; simp only [ho]; rw [if_neg (by simp [hw])]; subst hd; exact ⟨Below.refl _ _, hk⟩
theorem acn {H : Hp} {s : Nat} (h : (H.take s).1 = none) : (H.take s).2 = H := by
 unfold Hp.take at h ⊢; split
 · rename_i hf; rw [hf] at h; cases h
 · rename_i hf; rw [hf] at h; dsimp only at h ⊢; split
   · rfl
   · rename_i hr; rw [if_neg hr] at h; split at h <;> cases h
def Rez (F : Nat -> Prop) (w : World) (p : Nat) (r : (Nat × Int) × Hp) (e : Ending) (w' : World) : Prop := e = .returned (.tuple #[.int .i64 (r.1.1 : Int), .int .i64 r.1.2]) /\ HT F w p r.2 w'
section
variable {F : Nat -> Prop} {w w' : World} {p gl : Nat} {H : Hp} {Vb Vd : Value} {cs : List Value}
theorem apT (h : Hm F w p H Vb Vd gl cs) (hok : H.Ok) (N : Nat) (_hf : H.Few N) (_hN : N <= 40000) (s : Nat) (_hs : aaG (s : Int) = true) (o : Int) (ho : -9223372036854775808 <= o /\ o <= 9223372036854775807) (hu : aaK H.blks o = none) :
 Calls Tryz.prog 70 #[.pointer (some ⟨p, 0, none⟩), .int .i64 o, .int .i64 (s : Int)] w fun e w' => Rez F w p (H.resize o s) e w' := by
 have e : H.resize o s = ((0, 3), H) := by unfold Hp.resize; rw [hu]
 have hn512 := hok.n; have HU := hE0 (abq h (by omega) o ho _ hu); have HE := hE0 e; have HT0 : Hid (HT F w p H w) := HT.refl ⟨_, _, _, _, h⟩; clear h hok hu e; go_enter Tryz.func70, Tryz.ntmps70
 go_wp2_with fail
 refine HU.out.mono ?_; rintro e w2 ⟨rfl, rfl⟩; go_wp2
 go_ret2
 refine ⟨?_, ?_⟩
 · rw [HE.out]; rfl
 · rw [HE.out]; exact HT0.out
theorem apU (h : Hm F w p H Vb Vd gl cs) (hok : H.Ok) (N : Nat) (hf : H.Few N) (hN : N <= 40000) (s : Nat) (hs : aaG (s : Int) = true) (o : Int) (ho : -9223372036854775808 <= o /\ o <= 9223372036854775807) (i : Nat) (hu : aaK H.blks o = some i) (hle : s <= (aag H.blks i).size) :
 Calls Tryz.prog 70 #[.pointer (some ⟨p, 0, none⟩), .int .i64 o, .int .i64 (s : Int)] w fun e w' => Rez F w p (H.resize o s) e w' := by
 have e : H.resize o s = (((aag H.blks i).off, 0), H.cut i s) := by unfold Hp.resize; rw [hu]; dsimp only; rw [if_pos hle]
 have hn512 := hok.n; obtain ⟨hi, hoff, _⟩ := abe hu; have HU := hE0 (abq h (by omega) o ho _ hu); have HC := hE0 (agF h hok N hf (by omega) i hi s hs); have HE := hE0 e; obtain ⟨b1, c1, rfl, _, hnc, _⟩ := aav h.ob (by omega); have q1 := h.c1; have d1 := (h.at_n rfl hi).2.1; obtain ⟨n, hn⟩ := nmE H.blks.length; rw [hn] at q1 hi hnc hn512; obtain ⟨xs, hxs⟩ := nmE ((aag H.blks i).size); rw [hxs] at d1 hle; have hin : (i : Int) < (n : Int) := by omega
 have hi2 : i <= 512 := by omega
 have hle2 : (s : Int) <= (xs : Int) := by omega
 have HOFF := hE0 hoff; clear h hok hf hu e hn hxs hoff hs; go_enter Tryz.func70, Tryz.ntmps70
 go_wp2_with fail
 refine HU.out.mono ?_; rintro e w2 ⟨rfl, rfl⟩; dsimp only [ixV]; go_wp2_with fail
 refine HC.out.mono ?_; rintro e w3 ⟨rfl, ht⟩; have HTO := hE0 ht; clear ht HC HU q1 d1; go_wp2
 go_ret2
 refine ⟨?_, ?_⟩
 · rw [HE.out, <- HOFF.out]; rfl
 · rw [HE.out]; exact HTO.out
theorem aoY (h : Hm F w p H Vb Vd gl cs) (hok : H.Ok) (N : Nat) (hf : H.Few N) (hN : N <= 40000) (s : Nat) (hs : aaG (s : Int) = true) (_hcap : H.cap <= 100000) (o : Int) (ho : -9223372036854775808 <= o /\ o <= 9223372036854775807) (i : Nat) (hu : aaK H.blks o = some i) (hlt : (aag H.blks i).size < s) (hE : i + 1 < H.blks.length) (hU : (aag H.blks (i + 1)).used = false) (hb : s <= aa1 H.blks i) :
 Calls Tryz.prog 70 #[.pointer (some ⟨p, 0, none⟩), .int .i64 o, .int .i64 (s : Int)] w fun e w' => Rez F w p (H.resize o s) e w' := by
 have hn512 := hok.n; obtain ⟨hi, hoff, _⟩ := abe hu; have hnx : aaH H.blks i = true := by unfold aaH; rw [hU, decide_eq_true hE]; rfl
 have hbN := acx hnx; have e : H.resize o s = (((aag H.blks i).off, 0), (H.widen i).cut i s) := by unfold Hp.resize; rw [hu]; dsimp only; rw [if_neg (by omega), if_pos hb]
 have hss := (aac _).1 hs; have hle := hok.le; obtain ⟨_, hszi, htl⟩ := hok.at_ hi; have htl1 := (aai _ _ _ htl).1; have hsz := (aac _).1 hszi; have HU := hE0 (abq h (by omega) o ho _ hu); have HLEN := hE0 (fun (W : World) (hW : Below w.heap.size w W) => aa8 (h.below hW) (by omega) (by omega)); have h2s := (hok.two hE).2; obtain ⟨k, hk0⟩ := nmE (i + 1); have HOUT := hE0 (fun (W : World) (hW : Below w.heap.size w W) => abA (h.below hW) k (by rw [<- hk0]; exact hE) (hok.sz (by rw [<- hk0]; exact hE)) (fun d hd => Nat.le_trans (hf d hd) (by omega))); have hs2 := (aac _).1 (hok.sz hE); have HE := hE0 e; obtain ⟨wd, hwd⟩ := nmE w.drew; have hbd := adE hwd; have hd := h.below hbd; obtain ⟨b1, c1, rfl, _, hnc, _⟩ := aav h.ob (by omega); have q1 := h.c1; have r0 := hd.c0; have hpd := hd.lt; have d1 := (h.at_n rfl hi).2.1; have d2 := h.at_n rfl hE; rw [hU] at d2; obtain ⟨_, d3, d4⟩ := d2; have HH := hE0 h; have HD := hE0 hd; have HBD := hE0 hbd; have HWD := hE0 hwd; have HOK := hE0 hok; have HF := hE0 hf; have HS := hE0 hs; have HI := hE0 hi; obtain ⟨xo, hxo⟩ := nmE ((aag H.blks i).off); obtain ⟨xs, hxs⟩ := nmE ((aag H.blks i).size); rw [hxo] at htl1 hoff; rw [hxs] at d1 hlt hsz htl1 hbN h2s; subst hoff; obtain ⟨x2, hx2⟩ := nmE ((aag H.blks (i + 1)).size); rw [hx2] at d3 hbN h2s hs2; obtain ⟨bo, hbo⟩ := nmE (aa1 H.blks i); rw [hbo] at hbN hb; obtain ⟨ll, hll⟩ := nmE (lenB H.blks); rw [hll] at htl1 hle HLEN; obtain ⟨cap, hcp⟩ := nmE H.cap; rw [hcp] at r0; obtain ⟨n, hn⟩ := nmE H.blks.length; rw [hn] at q1 hi hnc hn512 hE; have hin : (i : Int) < (n : Int) := by omega
 have hi2 : i <= 512 := by omega
 have hlt2 : (xs : Int) < (s : Int) := by omega
 have hie : (i : Int) + 1 < (n : Int) := by omega
 have hk : (i : Int) + 1 = (k : Int) := by omega
 have HK : Hid (k = i + 1) := (show _ = _ by omega); rw [<- HK.out] at d4 d3; have hkn : (k : Int) < (n : Int) := by omega
 have hsb : (xs : Int) + (x2 : Int) = (bo : Int) := by omega
 obtain ⟨ob, hob⟩ : ∃ ob : Nat, (xo : Int) + (bo : Int) = (ob : Int) := ⟨xo + bo, by omega⟩; have g1 : decide ((s : Int) <= (bo : Int)) = true := decide_eq_true (by omega); have g1' : decide (s <= bo) = true := decide_eq_true (by omega); have hsb2 : (s : Int) <= (bo : Int) := by omega
 have hx0 : 0 < (x2 : Int) := by omega
 have z1 : xo <= 16384 := by omega
 have z2 : xs <= 16384 := by omega
 have z3 : ll <= 16384 := by omega
 have z4 : s <= 16384 := by omega
 have z5 : bo <= 32768 := by omega
 have z6 : x2 <= 16384 := by omega
 have z9 : ob <= 65536 := by omega
 have HN := hE0 hn; have HBO := hE0 hbo; have HXO := hE0 hxo; have HXS := hE0 hxs; have HNX := hE0 hnx; have HX2 := hE0 hx2; have HCP : Hid (H.cap = cap) := hcp; clear h hok hf hu e hn hxo hs hd hbd hwd hbo hll hcp hnx hbN htl1 hle hss hsz htl hszi hlt hb hxs hi hE hx2 hU h2s hs2 hk0; go_enter Tryz.func70, Tryz.ntmps70
 go_wp2_with fail
 refine HU.out.mono ?_; rintro e w2 ⟨rfl, rfl⟩; clear HU; dsimp only [ixV]; go_wp2_with fail
 refine (HLEN.out _ (Below.refl _ _)).mono ?_; rintro e w2 ⟨rfl, rfl⟩; go_wp2_with fail
 refine aaf wd.heap.size [([0, 1, 2, 3, 4, 5, 6, 8, 10, 12, 13, 14, 15], 7)] [9, 11, 16, 17, 18] [] (by kernel_rfl) (by kernel_rfl) (by kernel_rfl) (fun _ _ _ _ _ h => h) ?_; rw [HWD.out]; refine aaj (l := ?segAYB) ?hsegAYB ?_
 case hsegAYB => simp only [pick, lE1, lE2, lE3]; rfl
 repeat (go_big_quiet_step (fail))
 refine wpQuiet_nil ?_; refine adJ rfl (some 84) rfl rfl ⟨wd.heap.size, Nat.le_refl _, ?_⟩; refine aap (l := ?laBYB) (t := []) ?hlaBYB ?htlBYB ?_
 case hlaBYB => simp only [pick, lE1, lE2, lE3]; rfl
 case htlBYB => rfl
 simp only [Act.put, lE4, lE5, lE6]; repeat (go_big_quiet_step (fail))
 refine wpQuiet_nil ?_; have ZD := hE0 ((Hz.start HH.out).below HBD.out); go_wp2_with fail
 refine (HOUT.out wd HBD.out).mono ?_; rintro e w3 ⟨rfl, ht⟩; obtain ⟨F3, Vb3, Vd3, gl3, cs3, z3⟩ := ZD.out.step ht; have Z3 := hE0 z3; have e3 : (H.out k).blks.length = n := HN.out; clear z3 ht HOUT ZD HD HH; go_wp2_with fail
 refine (acm Z3.out.hm k (by rw [e3]; omega) (by rw [e3]; omega) HOK.out.dl).mono ?_; rintro e w4 ⟨rfl, ht⟩; obtain ⟨F4, Vb4, Vd4, gl4, cs4, z4⟩ := Z3.out.step ht; have hsw : (H.out k).drop k = H.swallow i := by rw [HK.out]; exact (adb HNX.out).symm
 rw [hsw] at z4; clear ht Z3 e3 hsw; have hwo := HOK.out.widen HI.out; have lw : (H.swallow i).blks.length = (H.widen i).blks.length := by unfold Hp.widen; exact (List.length_set ..).symm
 obtain ⟨m, hm⟩ := nmE ((H.widen i).blks.length); have him : i < m := by rw [<- hm]; exact hwo.2.1
 rw [hm] at lw; obtain ⟨b4, c4, hV4, _, hnc4, _⟩ := aav z4.hm.ob (by omega); subst hV4; rw [lw] at hnc4; have k1 := z4.hm.c1; rw [lw] at k1; have f1 := aas z4.hm.ob (i * 3 + 1); obtain ⟨_, k2⟩ : ∃ u, w4.cell? ⟨b4, i * 3 + 1, none⟩ = some u := by
  have hz := z4.hm; rw [lw] at hz; exact ⟨_, (hz.at_n lw him).2.1⟩
 have z5 := z4.set (a := ⟨b4, i * 3 + 1, none⟩) (u := .int .i64 (bo : Int)) (z4.hm.fb b4 rfl) (z4.hm.sizeM rfl (by rw [lw]; exact him) bo); obtain ⟨w5, hw5⟩ := nmE (w4.setCell ⟨b4, i * 3 + 1, none⟩ (.int .i64 (bo : Int))); rw [hw5] at z5; have hwd2 : (H.swallow i).size i bo = H.widen i := by unfold Hp.widen; rw [HBO.out]
 rw [hwd2] at z5; have HW5 := hE0 hw5; have Z5 := hE0 z5; have hmi : (i : Int) < (m : Int) := by omega
 have HC := hE0 (agF z5.hm hwo.1 N HF.out.widen (by omega) i (by rw [hm]; exact him) s HS.out); clear z4 z5 hw5 hwd2 hwo hm HBO; go_wp2_with (first | (rw [HW5.out]) | fail)
 refine HC.out.mono ?_; rintro e w6 ⟨rfl, ht⟩; have hto : Rez F w p (H.resize (xo : Int) s) (.returned (.tuple #[.int .i64 (xo : Int), .int .i64 0])) w6 := by
  rw [HE.out]; exact ⟨by rw [HXO.out], Z5.out.last ht⟩
 have HTO := hE0 hto; clear hto ht HC Z5; go_wp2
 go_ret2
 exact HTO.out
theorem aoZ (h : Hm F w p H Vb Vd gl cs) (hok : H.Ok) (N : Nat) (hf : H.Few N) (_hN : N <= 40000) (s : Nat) (hs : aaG (s : Int) = true) (_hcap : H.cap <= 100000) (o : Int) (ho : -9223372036854775808 <= o /\ o <= 9223372036854775807) (i : Nat) (hu : aaK H.blks o = some i) (hlt : (aag H.blks i).size < s) (hE : H.blks.length <= i + 1) (hb : aa1 H.blks i < s) (he : (aag H.blks i).off + aa1 H.blks i = lenB H.blks) (hfit : lenB H.blks + s - aa1 H.blks i <= H.cap) :
 Calls Tryz.prog 70 #[.pointer (some ⟨p, 0, none⟩), .int .i64 o, .int .i64 (s : Int)] w fun e w' => Rez F w p (H.resize o s) e w' := by
 have hn512 := hok.n; obtain ⟨hi, hoff, _⟩ := abe hu; have hnx : aaH H.blks i = false := by unfold aaH; rw [decide_eq_false (by omega)]; rfl
 have hbN := acT hnx; have hg : abp H i s = true := by unfold abp; rw [decide_eq_true he, decide_eq_true hfit]; rfl
 have e : H.resize o s = (((aag H.blks i).off, 0), (H.widen i).size i s) := by unfold Hp.resize; rw [hu]; dsimp only; rw [if_neg (by omega), if_neg (by omega), if_pos hg]
 have hss := (aac _).1 hs; have hle := hok.le; obtain ⟨_, hszi, htl⟩ := hok.at_ hi; have htl1 := (aai _ _ _ htl).1; have hsz := (aac _).1 hszi; have HU := hE0 (abq h (by omega) o ho _ hu); have HLEN := hE0 (fun (W : World) (hW : Below w.heap.size w W) => aa8 (h.below hW) (by omega) (by omega)); have HE := hE0 e; obtain ⟨wd, hwd⟩ := nmE w.drew; have hbd := adE hwd; have hd := h.below hbd; obtain ⟨b1, c1, rfl, _, hnc, _⟩ := aav h.ob (by omega); have q1 := h.c1; have r0 := hd.c0; have hpd := hd.lt; have d1 := (h.at_n rfl hi).2.1; have HH := hE0 h; have HD := hE0 hd; have HBD := hE0 hbd; have HWD := hE0 hwd; have HOK := hE0 hok; have HF := hE0 hf; have HS := hE0 hs; have HI := hE0 hi; obtain ⟨xo, hxo⟩ := nmE ((aag H.blks i).off); obtain ⟨xs, hxs⟩ := nmE ((aag H.blks i).size); rw [hxo] at htl1 hoff he; rw [hxs] at d1 hlt hsz htl1 hbN; subst hoff; obtain ⟨bo, hbo⟩ := nmE (aa1 H.blks i); rw [hbo] at hbN hb he hfit; obtain ⟨ll, hll⟩ := nmE (lenB H.blks); rw [hll] at htl1 hle HLEN he hfit; obtain ⟨cap, hcp⟩ := nmE H.cap; rw [hcp] at r0  hfit; obtain ⟨n, hn⟩ := nmE H.blks.length; rw [hn] at q1 hi hnc hn512 hE; have hin : (i : Int) < (n : Int) := by omega
 have hi2 : i <= 512 := by omega
 have hlt2 : (xs : Int) < (s : Int) := by omega
 have hie : (n : Int) <= (i : Int) + 1 := by omega
 have hbb : bo = xs := hbN; have hbb2 : xs = bo := hbb.symm; subst hbb2; have hend : (xo : Int) + (xs : Int) = (ll : Int) := by omega
 have g1 : decide ((s : Int) <= (xs : Int)) = false := decide_eq_false (by omega); have g1' : decide (s <= xs) = false := decide_eq_false (by omega); have hsb2 : (xs : Int) < (s : Int) := by omega
 obtain ⟨ls, hls⟩ : ∃ ls : Nat, (ll : Int) + (s : Int) = (ls : Int) := ⟨ll + s, by omega⟩; obtain ⟨lb, hlb⟩ : ∃ lb : Nat, (ls : Int) - (xs : Int) = (lb : Int) := ⟨ll + s - xs, by omega⟩; have g2 : decide ((lb : Int) <= (cap : Int)) = true := decide_eq_true (by omega); have g2' : decide (lb <= cap) = true := decide_eq_true (by omega); have z1 : xo <= 16384 := by omega
 have z2 : xs <= 16384 := by omega
 have z3 : ll <= 16384 := by omega
 have z4 : s <= 16384 := by omega
 have z7 : ls <= 32768 := by omega
 have z8 : lb <= 32768 := by omega
 have HN := hE0 hn; have HBO := hE0 hbo; have HXO := hE0 hxo; have HXS := hE0 hxs; have HNX := hE0 hnx; have HCP : Hid (H.cap = cap) := hcp; clear h hok hf hu e hn hxo hs hd hbd hwd hbo hll hcp hnx hbN htl1 hle hss hsz htl hszi hlt hb hxs hi hE he hfit hg; go_enter Tryz.func70, Tryz.ntmps70
 go_wp2_with fail
 refine HU.out.mono ?_; rintro e w2 ⟨rfl, rfl⟩; clear HU; dsimp only [ixV]; go_wp2_with fail
 refine (HLEN.out _ (Below.refl _ _)).mono ?_; rintro e w2 ⟨rfl, rfl⟩; go_wp2_with fail
 refine aaf wd.heap.size [([0, 1, 2, 3, 4, 5, 6, 8, 10, 12, 13, 14, 15], 7)] [9, 11, 16, 17, 18] [] (by kernel_rfl) (by kernel_rfl) (by kernel_rfl) (fun _ _ _ _ _ h => h) ?_; rw [HWD.out]; have t1 := tfE r0 hpd; refine aaj (l := ?segAEF) ?hsegAEF ?_
 case hsegAEF => simp only [pick, lE1, lE2, lE3]; rfl
 repeat (go_big_quiet_step (fail))
 refine wpQuiet_nil ?_; clear t1; refine aam (vs := #[.pointer (some ⟨p, 0, none⟩)]) Tryz.call17 rfl rfl rfl (R := fun r w' => r = .int .i64 (ll : Int) /\ w' = wd) ((HLEN.out wd HBD.out).mono ?_) wd.heap.size (Nat.le_refl _) ?_
 · rintro e w' ⟨rfl, rfl⟩; exact ⟨_, rfl, Below.refl _ _, rfl, rfl⟩
 rintro r w11 _ ⟨rfl, hw11⟩; have hw11' := hw11.symm; subst hw11'; refine aap (l := ?laBEF) (t := []) ?hlaBEF ?htlBEF ?_
 case hlaBEF => simp only [pick, lE1, lE2, lE3]; rfl
 case htlBEF => rfl
 simp only [Act.put, lE4, lE5, lE6]; repeat (go_big_quiet_step (fail))
 refine wpQuiet_nil ?_; have ZD := hE0 ((Hz.start HH.out).below HBD.out); have z4 := ZD.out; have hsw : H = H.swallow i := (aeu HNX.out).symm; have z4 : Hz F w p F wd (H.swallow i) _ _ _ _ := hsw ▸ z4; clear hsw ZD HD HH; have hwo := HOK.out.widen HI.out; have lw : (H.swallow i).blks.length = (H.widen i).blks.length := by unfold Hp.widen; exact (List.length_set ..).symm
 obtain ⟨m, hm⟩ := nmE ((H.widen i).blks.length); have him : i < m := by rw [<- hm]; exact hwo.2.1
 rw [hm] at lw; obtain ⟨b4, c4, hV4, _, hnc4, _⟩ := aav z4.hm.ob (by omega); rw [hV4] at z4; rw [lw] at hnc4; have k1 := z4.hm.c1; rw [lw] at k1; have f1 := aas z4.hm.ob (i * 3 + 1); obtain ⟨_, k2⟩ : ∃ u, wd.cell? ⟨b4, i * 3 + 1, none⟩ = some u := by
  have hz := z4.hm; rw [lw] at hz; exact ⟨_, (hz.at_n lw him).2.1⟩
 have z5 := z4.set (a := ⟨b4, i * 3 + 1, none⟩) (u := .int .i64 (xs : Int)) (z4.hm.fb b4 rfl) (z4.hm.sizeM rfl (by rw [lw]; exact him) xs); obtain ⟨w5, hw5⟩ := nmE (wd.setCell ⟨b4, i * 3 + 1, none⟩ (.int .i64 (xs : Int))); rw [hw5] at z5; have hwd2 : (H.swallow i).size i xs = H.widen i := by unfold Hp.widen; rw [HBO.out]
 rw [hwd2] at z5; have HW5 := hE0 hw5; have Z5 := hE0 z5; have hmi : (i : Int) < (m : Int) := by omega
 have k3 := z5.hm.c1; rw [lw] at k3; have f2 := aas z5.hm.ob (i * 3 + 1); obtain ⟨_, k4⟩ : ∃ u, w5.cell? ⟨b4, i * 3 + 1, none⟩ = some u := by
  have hz := z5.hm; rw [lw] at hz; exact ⟨_, (hz.at_n hm him).2.1⟩
 have z6 := z5.set (a := ⟨b4, i * 3 + 1, none⟩) (u := .int .i64 (s : Int)) (z5.hm.fb b4 rfl) (z5.hm.sizeM (by rw [lw, hm]) (by rw [hm]; exact him) s); obtain ⟨w6, hw6⟩ := nmE (w5.setCell ⟨b4, i * 3 + 1, none⟩ (.int .i64 (s : Int))); rw [hw6] at z6; have HW6 := hE0 hw6; have hto : Rez F w p (H.resize (xo : Int) s) (.returned (.tuple #[.int .i64 (xo : Int), .int .i64 0])) w6 := by
  rw [HE.out]; exact ⟨by rw [HXO.out], z6.fin⟩
 have HTO := hE0 hto; clear z4 z5 z6 hw5 hw6 hwd2 hwo hm Z5 hto HBO; go_wp2_with (first | (rw [HW5.out]) | (rw [HW6.out]) | fail)
 go_ret2
 exact HTO.out
theorem ao0 (h : Hm F w p H Vb Vd gl cs) (hok : H.Ok) (N : Nat) (hf : H.Few N) (_hN : N <= 40000) (s : Nat) (hs : aaG (s : Int) = true) (_hcap : H.cap <= 100000) (o : Int) (ho : -9223372036854775808 <= o /\ o <= 9223372036854775807) (i : Nat) (hu : aaK H.blks o = some i) (hlt : (aag H.blks i).size < s) (hE : i + 1 < H.blks.length) (hU : (aag H.blks (i + 1)).used = false) (hb : aa1 H.blks i < s) (he : (aag H.blks i).off + aa1 H.blks i = lenB H.blks) (hfit : lenB H.blks + s - aa1 H.blks i <= H.cap) :
 Calls Tryz.prog 70 #[.pointer (some ⟨p, 0, none⟩), .int .i64 o, .int .i64 (s : Int)] w fun e w' => Rez F w p (H.resize o s) e w' := by
 have hn512 := hok.n; obtain ⟨hi, hoff, _⟩ := abe hu; have hnx : aaH H.blks i = true := by unfold aaH; rw [hU, decide_eq_true hE]; rfl
 have hbN := acx hnx; have hg : abp H i s = true := by unfold abp; rw [decide_eq_true he, decide_eq_true hfit]; rfl
 have e : H.resize o s = (((aag H.blks i).off, 0), (H.widen i).size i s) := by unfold Hp.resize; rw [hu]; dsimp only; rw [if_neg (by omega), if_neg (by omega), if_pos hg]
 have hss := (aac _).1 hs; have hle := hok.le; obtain ⟨_, hszi, htl⟩ := hok.at_ hi; have htl1 := (aai _ _ _ htl).1; have hsz := (aac _).1 hszi; have HU := hE0 (abq h (by omega) o ho _ hu); have HLEN := hE0 (fun (W : World) (hW : Below w.heap.size w W) => aa8 (h.below hW) (by omega) (by omega)); have h2s := (hok.two hE).2; obtain ⟨k, hk0⟩ := nmE (i + 1); have HOUT := hE0 (fun (W : World) (hW : Below w.heap.size w W) => abA (h.below hW) k (by rw [<- hk0]; exact hE) (hok.sz (by rw [<- hk0]; exact hE)) (fun d hd => Nat.le_trans (hf d hd) (by omega))); have hs2 := (aac _).1 (hok.sz hE); have HE := hE0 e; obtain ⟨wd, hwd⟩ := nmE w.drew; have hbd := adE hwd; have hd := h.below hbd; obtain ⟨b1, c1, rfl, _, hnc, _⟩ := aav h.ob (by omega); have q1 := h.c1; have r0 := hd.c0; have hpd := hd.lt; have d1 := (h.at_n rfl hi).2.1; have d2 := h.at_n rfl hE; rw [hU] at d2; obtain ⟨_, d3, d4⟩ := d2; have HH := hE0 h; have HD := hE0 hd; have HBD := hE0 hbd; have HWD := hE0 hwd; have HOK := hE0 hok; have HF := hE0 hf; have HS := hE0 hs; have HI := hE0 hi; obtain ⟨xo, hxo⟩ := nmE ((aag H.blks i).off); obtain ⟨xs, hxs⟩ := nmE ((aag H.blks i).size); rw [hxo] at htl1 hoff he; rw [hxs] at d1 hlt hsz htl1 hbN h2s; subst hoff; obtain ⟨x2, hx2⟩ := nmE ((aag H.blks (i + 1)).size); rw [hx2] at d3 hbN h2s hs2; obtain ⟨bo, hbo⟩ := nmE (aa1 H.blks i); rw [hbo] at hbN hb he hfit; obtain ⟨ll, hll⟩ := nmE (lenB H.blks); rw [hll] at htl1 hle HLEN he hfit; obtain ⟨cap, hcp⟩ := nmE H.cap; rw [hcp] at r0  hfit; obtain ⟨n, hn⟩ := nmE H.blks.length; rw [hn] at q1 hi hnc hn512 hE; have hin : (i : Int) < (n : Int) := by omega
 have hi2 : i <= 512 := by omega
 have hlt2 : (xs : Int) < (s : Int) := by omega
 have hie : (i : Int) + 1 < (n : Int) := by omega
 have hk : (i : Int) + 1 = (k : Int) := by omega
 have HK : Hid (k = i + 1) := (show _ = _ by omega); rw [<- HK.out] at d4 d3; have hkn : (k : Int) < (n : Int) := by omega
 have hsb : (xs : Int) + (x2 : Int) = (bo : Int) := by omega
 have hend : (xo : Int) + (bo : Int) = (ll : Int) := by omega
 have g1 : decide ((s : Int) <= (bo : Int)) = false := decide_eq_false (by omega); have g1' : decide (s <= bo) = false := decide_eq_false (by omega); have hsb2 : (bo : Int) < (s : Int) := by omega
 obtain ⟨ls, hls⟩ : ∃ ls : Nat, (ll : Int) + (s : Int) = (ls : Int) := ⟨ll + s, by omega⟩; obtain ⟨lb, hlb⟩ : ∃ lb : Nat, (ls : Int) - (bo : Int) = (lb : Int) := ⟨ll + s - bo, by omega⟩; have g2 : decide ((lb : Int) <= (cap : Int)) = true := decide_eq_true (by omega); have g2' : decide (lb <= cap) = true := decide_eq_true (by omega); have hx0 : 0 < (x2 : Int) := by omega
 have z1 : xo <= 16384 := by omega
 have z2 : xs <= 16384 := by omega
 have z3 : ll <= 16384 := by omega
 have z4 : s <= 16384 := by omega
 have z5 : bo <= 32768 := by omega
 have z6 : x2 <= 16384 := by omega
 have z7 : ls <= 32768 := by omega
 have z8 : lb <= 32768 := by omega
 have HN := hE0 hn; have HBO := hE0 hbo; have HXO := hE0 hxo; have HXS := hE0 hxs; have HNX := hE0 hnx; have HX2 := hE0 hx2; have HCP : Hid (H.cap = cap) := hcp; clear h hok hf hu e hn hxo hs hd hbd hwd hbo hll hcp hnx hbN htl1 hle hss hsz htl hszi hlt hb hxs hi hE hx2 hU h2s hs2 hk0 he hfit hg; go_enter Tryz.func70, Tryz.ntmps70
 go_wp2_with fail
 refine HU.out.mono ?_; rintro e w2 ⟨rfl, rfl⟩; clear HU; dsimp only [ixV]; go_wp2_with fail
 refine (HLEN.out _ (Below.refl _ _)).mono ?_; rintro e w2 ⟨rfl, rfl⟩; go_wp2_with fail
 refine aaf wd.heap.size [([0, 1, 2, 3, 4, 5, 6, 8, 10, 12, 13, 14, 15], 7)] [9, 11, 16, 17, 18] [] (by kernel_rfl) (by kernel_rfl) (by kernel_rfl) (fun _ _ _ _ _ h => h) ?_; rw [HWD.out]; have t1 := tfE r0 hpd; refine aaj (l := ?segAYF) ?hsegAYF ?_
 case hsegAYF => simp only [pick, lE1, lE2, lE3]; rfl
 repeat (go_big_quiet_step (fail))
 refine wpQuiet_nil ?_; clear t1; refine aam (vs := #[.pointer (some ⟨p, 0, none⟩)]) Tryz.call17 rfl rfl rfl (R := fun r w' => r = .int .i64 (ll : Int) /\ w' = wd) ((HLEN.out wd HBD.out).mono ?_) wd.heap.size (Nat.le_refl _) ?_
 · rintro e w' ⟨rfl, rfl⟩; exact ⟨_, rfl, Below.refl _ _, rfl, rfl⟩
 rintro r w11 _ ⟨rfl, hw11⟩; have hw11' := hw11.symm; subst hw11'; refine aap (l := ?laBYF) (t := []) ?hlaBYF ?htlBYF ?_
 case hlaBYF => simp only [pick, lE1, lE2, lE3]; rfl
 case htlBYF => rfl
 simp only [Act.put, lE4, lE5, lE6]; repeat (go_big_quiet_step (fail))
 refine wpQuiet_nil ?_; have ZD := hE0 ((Hz.start HH.out).below HBD.out); go_wp2_with fail
 refine (HOUT.out wd HBD.out).mono ?_; rintro e w3 ⟨rfl, ht⟩; obtain ⟨F3, Vb3, Vd3, gl3, cs3, z3⟩ := ZD.out.step ht; have Z3 := hE0 z3; have e3 : (H.out k).blks.length = n := HN.out; clear z3 ht HOUT ZD HD HH; go_wp2_with fail
 refine (acm Z3.out.hm k (by rw [e3]; omega) (by rw [e3]; omega) HOK.out.dl).mono ?_; rintro e w4 ⟨rfl, ht⟩; obtain ⟨F4, Vb4, Vd4, gl4, cs4, z4⟩ := Z3.out.step ht; have hsw : (H.out k).drop k = H.swallow i := by rw [HK.out]; exact (adb HNX.out).symm
 rw [hsw] at z4; clear ht Z3 e3 hsw; have hwo := HOK.out.widen HI.out; have lw : (H.swallow i).blks.length = (H.widen i).blks.length := by unfold Hp.widen; exact (List.length_set ..).symm
 obtain ⟨m, hm⟩ := nmE ((H.widen i).blks.length); have him : i < m := by rw [<- hm]; exact hwo.2.1
 rw [hm] at lw; obtain ⟨b4, c4, hV4, _, hnc4, _⟩ := aav z4.hm.ob (by omega); subst hV4; rw [lw] at hnc4; have k1 := z4.hm.c1; rw [lw] at k1; have f1 := aas z4.hm.ob (i * 3 + 1); obtain ⟨_, k2⟩ : ∃ u, w4.cell? ⟨b4, i * 3 + 1, none⟩ = some u := by
  have hz := z4.hm; rw [lw] at hz; exact ⟨_, (hz.at_n lw him).2.1⟩
 have z5 := z4.set (a := ⟨b4, i * 3 + 1, none⟩) (u := .int .i64 (bo : Int)) (z4.hm.fb b4 rfl) (z4.hm.sizeM rfl (by rw [lw]; exact him) bo); obtain ⟨w5, hw5⟩ := nmE (w4.setCell ⟨b4, i * 3 + 1, none⟩ (.int .i64 (bo : Int))); rw [hw5] at z5; have hwd2 : (H.swallow i).size i bo = H.widen i := by unfold Hp.widen; rw [HBO.out]
 rw [hwd2] at z5; have HW5 := hE0 hw5; have Z5 := hE0 z5; have hmi : (i : Int) < (m : Int) := by omega
 have k3 := z5.hm.c1; rw [lw] at k3; have f2 := aas z5.hm.ob (i * 3 + 1); obtain ⟨_, k4⟩ : ∃ u, w5.cell? ⟨b4, i * 3 + 1, none⟩ = some u := by
  have hz := z5.hm; rw [lw] at hz; exact ⟨_, (hz.at_n hm him).2.1⟩
 have z6 := z5.set (a := ⟨b4, i * 3 + 1, none⟩) (u := .int .i64 (s : Int)) (z5.hm.fb b4 rfl) (z5.hm.sizeM (by rw [lw, hm]) (by rw [hm]; exact him) s); obtain ⟨w6, hw6⟩ := nmE (w5.setCell ⟨b4, i * 3 + 1, none⟩ (.int .i64 (s : Int))); rw [hw6] at z6; have HW6 := hE0 hw6; have hto : Rez F w p (H.resize (xo : Int) s) (.returned (.tuple #[.int .i64 (xo : Int), .int .i64 0])) w6 := by
  rw [HE.out]; exact ⟨by rw [HXO.out], z6.fin⟩
 have HTO := hE0 hto; clear z4 z5 z6 hw5 hw6 hwd2 hwo hm Z5 hto HBO; go_wp2_with (first | (rw [HW5.out]) | (rw [HW6.out]) | fail)
 go_ret2
 exact HTO.out
theorem am7 (h : Hm F w p H Vb Vd gl cs) (hok : H.Ok) (N : Nat) (hf : H.Few N) (hN : N <= 40000) (s : Nat) (hs : aaG (s : Int) = true) (hcap : H.cap <= 100000) (hL : H.Listed) (o : Int) (ho : -9223372036854775808 <= o /\ o <= 9223372036854775807) (i : Nat) (hu : aaK H.blks o = some i) (hlt : (aag H.blks i).size < s) (hE : H.blks.length <= i + 1) (hb : aa1 H.blks i < s) (he : (aag H.blks i).off + aa1 H.blks i = lenB H.blks) (hfit : ¬ lenB H.blks + s - aa1 H.blks i <= H.cap) (htk : (H.take s).1 = none) :
 Calls Tryz.prog 70 #[.pointer (some ⟨p, 0, none⟩), .int .i64 o, .int .i64 (s : Int)] w fun e w' => Rez F w p (H.resize o s) e w' := by
 have hn512 := hok.n; obtain ⟨hi, hoff, _⟩ := abe hu; have hnx : aaH H.blks i = false := by unfold aaH; rw [decide_eq_false (by omega)]; rfl
 have hbN := acT hnx; have hg : abp H i s = false := by unfold abp; rw [decide_eq_false hfit, Bool.and_false]
 have e : H.resize o s = ((0, 5), H) := by unfold Hp.resize; rw [hu]; dsimp only; rw [if_neg (by omega), if_neg (by omega), hg, if_neg (by decide), htk]
 have hss := (aac _).1 hs; have hle := hok.le; obtain ⟨_, hszi, htl⟩ := hok.at_ hi; have htl1 := (aai _ _ _ htl).1; have hsz := (aac _).1 hszi; have HU := hE0 (abq h (by omega) o ho _ hu); have HLEN := hE0 (fun (W : World) (hW : Below w.heap.size w W) => aa8 (h.below hW) (by omega) (by omega)); have HE := hE0 e; obtain ⟨wd, hwd⟩ := nmE w.drew; have hbd := adE hwd; have hd := h.below hbd; obtain ⟨b1, c1, rfl, _, hnc, _⟩ := aav h.ob (by omega); have q1 := h.c1; have r0 := hd.c0; have hpd := hd.lt; have d1 := (h.at_n rfl hi).2.1; have HH := hE0 h; have HD := hE0 hd; have HBD := hE0 hbd; have HWD := hE0 hwd; have HOK := hE0 hok; have HF := hE0 hf; have HS := hE0 hs; have HI := hE0 hi; obtain ⟨xo, hxo⟩ := nmE ((aag H.blks i).off); obtain ⟨xs, hxs⟩ := nmE ((aag H.blks i).size); rw [hxo] at htl1 hoff he; rw [hxs] at d1 hlt hsz htl1 hbN; subst hoff; obtain ⟨bo, hbo⟩ := nmE (aa1 H.blks i); rw [hbo] at hbN hb he hfit; obtain ⟨ll, hll⟩ := nmE (lenB H.blks); rw [hll] at htl1 hle HLEN he hfit; obtain ⟨cap, hcp⟩ := nmE H.cap; rw [hcp] at r0 hcap hfit; obtain ⟨n, hn⟩ := nmE H.blks.length; rw [hn] at q1 hi hnc hn512 hE; have hin : (i : Int) < (n : Int) := by omega
 have hi2 : i <= 512 := by omega
 have hlt2 : (xs : Int) < (s : Int) := by omega
 have hie : (n : Int) <= (i : Int) + 1 := by omega
 have hbb : bo = xs := hbN; have hbb2 : xs = bo := hbb.symm; subst hbb2; have hend : (xo : Int) + (xs : Int) = (ll : Int) := by omega
 have g1 : decide ((s : Int) <= (xs : Int)) = false := decide_eq_false (by omega); have g1' : decide (s <= xs) = false := decide_eq_false (by omega); have hsb2 : (xs : Int) < (s : Int) := by omega
 obtain ⟨ls, hls⟩ : ∃ ls : Nat, (ll : Int) + (s : Int) = (ls : Int) := ⟨ll + s, by omega⟩; obtain ⟨lb, hlb⟩ : ∃ lb : Nat, (ls : Int) - (xs : Int) = (lb : Int) := ⟨ll + s - xs, by omega⟩; have g2 : decide ((lb : Int) <= (cap : Int)) = false := decide_eq_false (by omega); have g2' : decide (lb <= cap) = false := decide_eq_false (by omega); have z1 : xo <= 16384 := by omega
 have z2 : xs <= 16384 := by omega
 have z3 : ll <= 16384 := by omega
 have z4 : s <= 16384 := by omega
 have z7 : ls <= 32768 := by omega
 have z8 : lb <= 32768 := by omega
 have HN := hE0 hn; have HBO := hE0 hbo; have HXO := hE0 hxo; have HXS := hE0 hxs; have HNX := hE0 hnx; have HTKE := hE0 htk; have HLI := hE0 hL; have HCP : Hid (H.cap = cap) := hcp; clear h hok hf hu e hn hxo hs hd hbd hwd hbo hll hcp hnx hbN htl1 hle hss hsz htl hszi hlt hb hxs hi hE he hfit hg htk hL; go_enter Tryz.func70, Tryz.ntmps70
 go_wp2_with fail
 refine HU.out.mono ?_; rintro e w2 ⟨rfl, rfl⟩; clear HU; dsimp only [ixV]; go_wp2_with fail
 refine (HLEN.out _ (Below.refl _ _)).mono ?_; rintro e w2 ⟨rfl, rfl⟩; go_wp2_with fail
 refine aaf wd.heap.size [([0, 1, 2, 3, 4, 5, 6, 8, 10, 12, 13, 14, 15], 7)] [9, 11, 16, 17, 18] [] (by kernel_rfl) (by kernel_rfl) (by kernel_rfl) (fun _ _ _ _ _ h => h) ?_; rw [HWD.out]; have t1 := tfE r0 hpd; refine aaj (l := ?segAE3N) ?hsegAE3N ?_
 case hsegAE3N => simp only [pick, lE1, lE2, lE3]; rfl
 repeat (go_big_quiet_step (fail))
 refine wpQuiet_nil ?_; clear t1; refine aam (vs := #[.pointer (some ⟨p, 0, none⟩)]) Tryz.call17 rfl rfl rfl (R := fun r w' => r = .int .i64 (ll : Int) /\ w' = wd) ((HLEN.out wd HBD.out).mono ?_) wd.heap.size (Nat.le_refl _) ?_
 · rintro e w' ⟨rfl, rfl⟩; exact ⟨_, rfl, Below.refl _ _, rfl, rfl⟩
 rintro r w11 _ ⟨rfl, hw11⟩; have hw11' := hw11.symm; subst hw11'; refine aap (l := ?laBE3N) (t := []) ?hlaBE3N ?htlBE3N ?_
 case hlaBE3N => simp only [pick, lE1, lE2, lE3]; rfl
 case htlBE3N => rfl
 simp only [Act.put, lE4, lE5, lE6]; repeat (go_big_quiet_step (fail))
 refine wpQuiet_nil ?_; have ZD := hE0 ((Hz.start HH.out).below HBD.out); have HTA := hE0 (ab8 HD.out HOK.out N HF.out (by omega) HLI.out s HS.out (by rw [HCP.out]; exact hcap)); clear HD HH; go_wp2_with fail
 refine HTA.out.mono ?_; rintro e w3 ⟨rfl, ht⟩; rw [HTKE.out]; dsimp only [ag6, Option.isSome, Option.getD]; clear HTA; have hsame := acn HTKE.out; rw [hsame] at ht; have hto : Rez F w p (H.resize (xo : Int) s) (.returned (.tuple #[.int .i64 0, .int .i64 5])) w3 := by
  rw [HE.out]; exact ⟨rfl, ZD.out.last ht⟩
 have HTO := hE0 hto; clear hto ht hsame ZD; go_wp2
 go_ret2
 exact HTO.out
theorem am8 (h : Hm F w p H Vb Vd gl cs) (hok : H.Ok) (N : Nat) (hf : H.Few N) (hN : N <= 40000) (s : Nat) (hs : aaG (s : Int) = true) (hL : H.Listed) (o : Int) (ho : -9223372036854775808 <= o /\ o <= 9223372036854775807) (i : Nat) (hu : aaK H.blks o = some i) (hlt : (aag H.blks i).size < s) (hE : H.blks.length <= i + 1) (hb : aa1 H.blks i < s) (he : (aag H.blks i).off + aa1 H.blks i = lenB H.blks) (hfit : ¬ lenB H.blks + s - aa1 H.blks i <= H.cap) (hc16 : H.cap <= 16384) (q : Nat) (htk : (H.take s).1 = some q) (iq io : Nat) (hiq : atB (q : Int) (H.take s).2.blks = some iq) (hio : atB o (H.take s).2.blks = some io) :
 Calls Tryz.prog 70 #[.pointer (some ⟨p, 0, none⟩), .int .i64 o, .int .i64 (s : Int)] w fun e w' => Rez F w p (H.resize o s) e w' := by
 have hn512 := hok.n; obtain ⟨hi, hoff, _⟩ := abe hu; have hcap : H.cap <= 100000 := by omega
 have hnx : aaH H.blks i = false := by unfold aaH; rw [decide_eq_false (by omega)]; rfl
 have hbN := acT hnx; have hg : abp H i s = false := by unfold abp; rw [decide_eq_false hfit, Bool.and_false]
 have e : H.resize o s = ((q, 0), (((H.take s).2.moveD (q : Int) o).giveO o).getD ((H.take s).2.moveD (q : Int) o)) := by unfold Hp.resize; rw [hu]; dsimp only; rw [if_neg (by omega), if_neg (by omega), hg, if_neg (by decide), htk]
 have hss := (aac _).1 hs; have hle := hok.le; obtain ⟨_, hszi, htl⟩ := hok.at_ hi; have htl1 := (aai _ _ _ htl).1; have hsz := (aac _).1 hszi; have HU := hE0 (abq h (by omega) o ho _ hu); have HLEN := hE0 (fun (W : World) (hW : Below w.heap.size w W) => aa8 (h.below hW) (by omega) (by omega)); have HE := hE0 e; obtain ⟨wd, hwd⟩ := nmE w.drew; have hbd := adE hwd; have hd := h.below hbd; obtain ⟨b1, c1, rfl, _, hnc, _⟩ := aav h.ob (by omega); have q1 := h.c1; have r0 := hd.c0; have hpd := hd.lt; have d1 := (h.at_n rfl hi).2.1; have HH := hE0 h; have HD := hE0 hd; have HBD := hE0 hbd; have HWD := hE0 hwd; have HOK := hE0 hok; have HF := hE0 hf; have HS := hE0 hs; have HI := hE0 hi; obtain ⟨xo, hxo⟩ := nmE ((aag H.blks i).off); obtain ⟨xs, hxs⟩ := nmE ((aag H.blks i).size); rw [hxo] at htl1 hoff he; rw [hxs] at d1 hlt hsz htl1 hbN; subst hoff; obtain ⟨bo, hbo⟩ := nmE (aa1 H.blks i); rw [hbo] at hbN hb he hfit; obtain ⟨ll, hll⟩ := nmE (lenB H.blks); rw [hll] at htl1 hle HLEN he hfit; obtain ⟨cap, hcp⟩ := nmE H.cap; rw [hcp] at r0 hcap hfit; obtain ⟨n, hn⟩ := nmE H.blks.length; rw [hn] at q1 hi hnc hn512 hE; have hin : (i : Int) < (n : Int) := by omega
 have hi2 : i <= 512 := by omega
 have hlt2 : (xs : Int) < (s : Int) := by omega
 have hie : (n : Int) <= (i : Int) + 1 := by omega
 have hbb : bo = xs := hbN; have hbb2 : xs = bo := hbb.symm; subst hbb2; have hend : (xo : Int) + (xs : Int) = (ll : Int) := by omega
 have g1 : decide ((s : Int) <= (xs : Int)) = false := decide_eq_false (by omega); have g1' : decide (s <= xs) = false := decide_eq_false (by omega); have hsb2 : (xs : Int) < (s : Int) := by omega
 obtain ⟨ls, hls⟩ : ∃ ls : Nat, (ll : Int) + (s : Int) = (ls : Int) := ⟨ll + s, by omega⟩; obtain ⟨lb, hlb⟩ : ∃ lb : Nat, (ls : Int) - (xs : Int) = (lb : Int) := ⟨ll + s - xs, by omega⟩; have g2 : decide ((lb : Int) <= (cap : Int)) = false := decide_eq_false (by omega); have g2' : decide (lb <= cap) = false := decide_eq_false (by omega); have z1 : xo <= 16384 := by omega
 have z2 : xs <= 16384 := by omega
 have z3 : ll <= 16384 := by omega
 have z4 : s <= 16384 := by omega
 have z7 : ls <= 32768 := by omega
 have z8 : lb <= 32768 := by omega
 have HN := hE0 hn; have HBO := hE0 hbo; have HXO := hE0 hxo; have HXS := hE0 hxs; have HNX := hE0 hnx; have HTKE := hE0 htk; have HLI := hE0 hL; have HIQ := hE0 hiq; have HIO := hE0 hio; have HCP : Hid (H.cap = cap) := hcp; clear h hok hf hu e hn hxo hs hd hbd hwd hbo hll hcp hnx hbN htl1 hle hss hsz htl hszi hlt hb hxs hi hE he hfit hg htk hL hiq hio; go_enter Tryz.func70, Tryz.ntmps70
 go_wp2_with fail
 refine HU.out.mono ?_; rintro e w2 ⟨rfl, rfl⟩; clear HU; dsimp only [ixV]; go_wp2_with fail
 refine (HLEN.out _ (Below.refl _ _)).mono ?_; rintro e w2 ⟨rfl, rfl⟩; go_wp2_with fail
 refine aaf wd.heap.size [([0, 1, 2, 3, 4, 5, 6, 8, 10, 12, 13, 14, 15], 7)] [9, 11, 16, 17, 18] [] (by kernel_rfl) (by kernel_rfl) (by kernel_rfl) (fun _ _ _ _ _ h => h) ?_; rw [HWD.out]; have t1 := tfE r0 hpd; refine aaj (l := ?segAE3S) ?hsegAE3S ?_
 case hsegAE3S => simp only [pick, lE1, lE2, lE3]; rfl
 repeat (go_big_quiet_step (fail))
 refine wpQuiet_nil ?_; clear t1; refine aam (vs := #[.pointer (some ⟨p, 0, none⟩)]) Tryz.call17 rfl rfl rfl (R := fun r w' => r = .int .i64 (ll : Int) /\ w' = wd) ((HLEN.out wd HBD.out).mono ?_) wd.heap.size (Nat.le_refl _) ?_
 · rintro e w' ⟨rfl, rfl⟩; exact ⟨_, rfl, Below.refl _ _, rfl, rfl⟩
 rintro r w11 _ ⟨rfl, hw11⟩; have hw11' := hw11.symm; subst hw11'; refine aap (l := ?laBE3S) (t := []) ?hlaBE3S ?htlBE3S ?_
 case hlaBE3S => simp only [pick, lE1, lE2, lE3]; rfl
 case htlBE3S => rfl
 simp only [Act.put, lE4, lE5, lE6]; repeat (go_big_quiet_step (fail))
 refine wpQuiet_nil ?_; have ZD := hE0 ((Hz.start HH.out).below HBD.out); have HTA := hE0 (ab8 HD.out HOK.out N HF.out (by omega) HLI.out s HS.out (by rw [HCP.out]; exact hcap)); clear HD HH; go_wp2_with fail
 refine HTA.out.mono ?_; rintro e w3 ⟨rfl, ht⟩; rw [HTKE.out]; dsimp only [ag6, Option.isSome, Option.getD]; clear HTA; obtain ⟨F3, Vb3, Vd3, gl3, cs3, z3⟩ := ZD.out.step ht; have ok3 := HOK.out.take hc16 HS.out; have fw3 : (H.take s).2.Few (N + 1) := HF.out.take; have hq16 : q <= 100000 := by
  obtain ⟨g1, g2⟩ := abs HIQ.out; have g3 := (aai _ _ _ (ok3.at_ g1).2.2).1; have g4 := ok3.le; omega
 obtain ⟨H3, hH3⟩ := nmE ((H.take s).2); have HIQ3 : Hid (atB (q : Int) H3.blks = some iq) := (show _ = _ by rw [<- hH3]; exact HIQ.out); have HIO3 : Hid (atB (xo : Int) H3.blks = some io) := (show _ = _ by rw [<- hH3]; exact HIO.out); have HE3 : Hid (H.resize (xo : Int) s = ((q, 0), ((H3.moveD (q : Int) (xo : Int)).giveO (xo : Int)).getD (H3.moveD (q : Int) (xo : Int)))) := (show _ = _ by rw [<- hH3]; exact HE.out); rw [hH3] at z3 ok3 fw3; obtain ⟨wx, hwx⟩ := nmE w3.drew; have hbx := adE hwx; have zx := z3.below hbx; have hn3 := ok3.n; have l1 := (abs HIQ3.out).1; have l2 := (abs HIO3.out).1; obtain ⟨bd, cd, rfl, _, hncd, _⟩ := aav zx.hm.od (by rw [ok3.dl]; omega); obtain ⟨dn, hdn⟩ := nmE H3.ds.length; have hdn3 := ok3.dl; rw [hdn] at hdn3 hncd; rw [hdn] at zx; have k1 := zx.hm.c2; have hodx := zx.hm.od; rw [hdn] at hodx; obtain ⟨dv, k2, k3⟩ := aaW hodx (j := io) (by omega); obtain ⟨_, k4, _⟩ := aaW hodx (j := iq) (by omega); have f1 := aas hodx iq; have hsl := zx.hm.sl; have hgd : (H3.ds.getD io aaR).1 = dv := by
  rw [List.getElem?_map] at k3; rw [List.getD_eq_getElem?_getD]
  cases h' : H3.ds[io]? with
  | none => rw [h'] at k3; cases k3
  | some y => rw [h'] at k3; injection k3
 have hslv : ∃ A n c, (H3.ds.getD io aaR).1 = Value.slice A n c := by
  rw [List.getD_eq_getElem?_getD]
  cases h' : H3.ds[io]? with
  | none => exact ⟨_, _, _, rfl⟩
  | some y => exact hsl y (List.mem_of_getElem? h')
 have hmv : H3.moveD (q : Int) (xo : Int) = H3.copyD iq io := by unfold Hp.moveD; rw [HIQ3.out, HIO3.out]
 have z4 := zx.set (a := ⟨bd, iq, none⟩) (u := (H3.ds.getD io aaR).1) (zx.hm.fd bd rfl) (zx.hm.dcell (by rw [hdn]) (H3.ds.getD io aaR) hslv); have z4 : Hz F w p F3 (wx.setCell ⟨bd, iq, none⟩ (H3.ds.getD io aaR).1) (H3.copyD iq io) Vb3 (.slice (some ⟨bd, 0, none⟩) dn cd) gl3 cs3 := z4; rw [hgd, <- hmv] at z4; obtain ⟨w4, hw4⟩ := nmE (wx.setCell ⟨bd, iq, none⟩ dv); rw [hw4] at z4; have bl4 : (H3.moveD (q : Int) (xo : Int)).blks = H3.blks := by rw [hmv]; rfl
 have ok4 : (H3.moveD (q : Int) (xo : Int)).Ok := ⟨by rw [bl4]; exact ok3.tl, by rw [bl4]; exact ok3.le, by rw [hmv]; show (H3.ds.set _ _).length = _; rw [List.length_set]; exact ok3.dl⟩; have fw4 : (H3.moveD (q : Int) (xo : Int)).Few (N + 1) := by rw [hmv]; exact fw3
 have HGV := hE0 (aed z4.hm ok4 (N + 1) fw4 (by omega) (xo : Int) ho); have HA1 := hE0 (acc zx.hm (by omega) (q : Int) (by omega) _ HIQ3.out); have HA2 := hE0 (acc zx.hm (by omega) (xo : Int) ho _ HIO3.out); have hpx := zx.hm.lt; have hbdx : bd < wx.heap.size := own_lt hodx rfl; have Z4 := hE0 z4; have Hw11 := hE0 hwx; have HW4 := hE0 hw4; obtain ⟨Av, nv, cv, hdv⟩ := hslv; rw [hgd] at hdv; subst hdv; have hi1 : (iq : Int) < (dn : Int) := by omega
 have hi2' : (io : Int) < (dn : Int) := by omega
 clear z3 zx z4 ok3 fw3 ok4 fw4 hH3 hwx hbx hodx hsl hgd hmv hw4 bl4 hn3 l1 l2 hdn3 ht ZD HIQ HIO HIQ3 HIO3 hdn k3; go_wp2_with fail
 refine aaf wx.heap.size [([0, 1, 2, 3, 4, 5, 7, 8, 9, 10, 11, 12], 6), ([], 13)] [14, 15, 16] [17] (by kernel_rfl) (by kernel_rfl) (by kernel_rfl) (fun _ _ _ _ _ h => h) ?_; rw [Hw11.out]; have t1 := tfE k1 hpx; refine aaj (l := ?segCE3S) ?hsegCE3S ?_
 case hsegCE3S => simp only [pick, lE1, lE2, lE3]; rfl
 repeat (go_big_quiet_step (fail))
 refine wpQuiet_nil ?_; clear t1; refine aam (vs := #[.pointer (some ⟨p, 0, none⟩), .int .i64 (q : Int)]) Tryz.call65 rfl rfl rfl (R := fun r w' => r = .int .i64 (iq : Int) /\ w' = wx) (HA1.out.mono ?_) wx.heap.size (Nat.le_refl _) ?_
 · rintro e w' ⟨rfl, rfl⟩; exact ⟨_, rfl, Below.refl _ _, rfl, rfl⟩
 rintro r w11 _ ⟨rfl, rfl⟩; refine aaj (l := []) rfl ?_; refine wpQuiet_nil ?_; refine aam (vs := #[.pointer (some ⟨p, 0, none⟩), .int .i64 (xo : Int)]) Tryz.call65 rfl rfl rfl (R := fun r w' => r = .int .i64 (io : Int) /\ w' = w11) (HA2.out.mono ?_) w11.heap.size (Nat.le_refl _) ?_
 · rintro e w' ⟨rfl, rfl⟩; exact ⟨_, rfl, Below.refl _ _, rfl, rfl⟩
 rintro r w12 _ ⟨rfl, rfl⟩; refine aap (l := ?laEE3S) (t := ?tlEE3S) ?hlaEE3S ?htlEE3S ?_
 case hlaEE3S => simp only [pick, lE1, lE2, lE3]; rfl
 case htlEE3S => simp only [pick, lE1, lE2, lE3]; rfl
 simp only [Act.put, lE4, lE5, lE6]; have t2 := tfE k2 hbdx; repeat (go_big_quiet_step (fail))
 refine wpQuiet_nil ?_; clear t2; go_wp2_with (first | (rw [HW4.out]) | fail)
 refine HGV.out.mono ?_; rintro e w5 ⟨rfl, ht⟩; have hto : Rez F w p (H.resize (xo : Int) s) (.returned (.tuple #[.int .i64 (q : Int), .int .i64 0])) w5 := by
  rw [HE3.out]; exact ⟨rfl, Z4.out.last ht⟩
 have HTO := hE0 hto; clear hto ht HGV Z4 k1 k2 k4 f1; go_wp2
 go_ret2
 exact HTO.out
theorem am9 (h : Hm F w p H Vb Vd gl cs) (hok : H.Ok) (N : Nat) (hf : H.Few N) (hN : N <= 40000) (s : Nat) (hs : aaG (s : Int) = true) (hcap : H.cap <= 100000) (hL : H.Listed) (o : Int) (ho : -9223372036854775808 <= o /\ o <= 9223372036854775807) (i : Nat) (hu : aaK H.blks o = some i) (hlt : (aag H.blks i).size < s) (hE : i + 1 < H.blks.length) (hU : (aag H.blks (i + 1)).used = true) (hb : aa1 H.blks i < s) (he : (aag H.blks i).off + aa1 H.blks i ≠ lenB H.blks) (htk : (H.take s).1 = none) :
 Calls Tryz.prog 70 #[.pointer (some ⟨p, 0, none⟩), .int .i64 o, .int .i64 (s : Int)] w fun e w' => Rez F w p (H.resize o s) e w' := by
 have hn512 := hok.n; obtain ⟨hi, hoff, _⟩ := abe hu; have hnx : aaH H.blks i = false := by unfold aaH; rw [hU, Bool.not_true, Bool.and_false]
 have hbN := acT hnx; have hg : abp H i s = false := by unfold abp; rw [decide_eq_false he]; rfl
 have e : H.resize o s = ((0, 5), H) := by unfold Hp.resize; rw [hu]; dsimp only; rw [if_neg (by omega), if_neg (by omega), hg, if_neg (by decide), htk]
 have hss := (aac _).1 hs; have hle := hok.le; obtain ⟨_, hszi, htl⟩ := hok.at_ hi; have htl1 := (aai _ _ _ htl).1; have hsz := (aac _).1 hszi; have HU := hE0 (abq h (by omega) o ho _ hu); have HLEN := hE0 (fun (W : World) (hW : Below w.heap.size w W) => aa8 (h.below hW) (by omega) (by omega)); have HE := hE0 e; obtain ⟨wd, hwd⟩ := nmE w.drew; have hbd := adE hwd; have hd := h.below hbd; obtain ⟨b1, c1, rfl, _, hnc, _⟩ := aav h.ob (by omega); have q1 := h.c1; have r0 := hd.c0; have hpd := hd.lt; have d1 := (h.at_n rfl hi).2.1; have d2 := h.at_n rfl hE; rw [hU] at d2; obtain ⟨_, d3, d4⟩ := d2; have HH := hE0 h; have HD := hE0 hd; have HBD := hE0 hbd; have HWD := hE0 hwd; have HOK := hE0 hok; have HF := hE0 hf; have HS := hE0 hs; have HI := hE0 hi; obtain ⟨xo, hxo⟩ := nmE ((aag H.blks i).off); obtain ⟨xs, hxs⟩ := nmE ((aag H.blks i).size); rw [hxo] at htl1 hoff he; rw [hxs] at d1 hlt hsz htl1 hbN; subst hoff; obtain ⟨bo, hbo⟩ := nmE (aa1 H.blks i); rw [hbo] at hbN hb he; obtain ⟨ll, hll⟩ := nmE (lenB H.blks); rw [hll] at htl1 hle HLEN he; obtain ⟨cap, hcp⟩ := nmE H.cap; rw [hcp] at r0 hcap; obtain ⟨n, hn⟩ := nmE H.blks.length; rw [hn] at q1 hi hnc hn512 hE; have hin : (i : Int) < (n : Int) := by omega
 have hi2 : i <= 512 := by omega
 have hlt2 : (xs : Int) < (s : Int) := by omega
 have hie : (i : Int) + 1 < (n : Int) := by omega
 obtain ⟨k, hk⟩ : ∃ k : Nat, (i : Int) + 1 = (k : Int) := ⟨i + 1, by omega⟩; have HK : Hid (k = i + 1) := (show _ = _ by omega); rw [<- HK.out] at d4 d3; have hkn : (k : Int) < (n : Int) := by omega
 have hbb : bo = xs := hbN; have hbb2 : xs = bo := hbb.symm; subst hbb2; obtain ⟨ob, hob⟩ : ∃ ob : Nat, (xo : Int) + (xs : Int) = (ob : Int) := ⟨xo + xs, by omega⟩; have hne : ((ob : Int) == (ll : Int)) = false := by rw [beq_eq_false_iff_ne]; omega
 have hne2 : (ob == ll) = false := by rw [beq_eq_false_iff_ne]; omega
 have g1 : decide ((s : Int) <= (xs : Int)) = false := decide_eq_false (by omega); have g1' : decide (s <= xs) = false := decide_eq_false (by omega); have hsb2 : (xs : Int) < (s : Int) := by omega
 have z1 : xo <= 16384 := by omega
 have z2 : xs <= 16384 := by omega
 have z3 : ll <= 16384 := by omega
 have z4 : s <= 16384 := by omega
 have z9 : ob <= 65536 := by omega
 have HN := hE0 hn; have HBO := hE0 hbo; have HXO := hE0 hxo; have HXS := hE0 hxs; have HNX := hE0 hnx; have HTKE := hE0 htk; have HLI := hE0 hL; have HCP : Hid (H.cap = cap) := hcp; clear h hok hf hu e hn hxo hs hd hbd hwd hbo hll hcp hnx hbN htl1 hle hss hsz htl hszi hlt hb hxs hi hE hU he hg htk hL; go_enter Tryz.func70, Tryz.ntmps70
 go_wp2_with fail
 refine HU.out.mono ?_; rintro e w2 ⟨rfl, rfl⟩; clear HU; dsimp only [ixV]; go_wp2_with fail
 refine (HLEN.out _ (Below.refl _ _)).mono ?_; rintro e w2 ⟨rfl, rfl⟩; go_wp2_with fail
 refine aaf wd.heap.size [([0, 1, 2, 3, 4, 5, 6, 8, 10, 12, 13, 14, 15], 7)] [9, 11, 16, 17, 18] [] (by kernel_rfl) (by kernel_rfl) (by kernel_rfl) (fun _ _ _ _ _ h => h) ?_; rw [HWD.out]; refine aaj (l := ?segAU2N) ?hsegAU2N ?_
 case hsegAU2N => simp only [pick, lE1, lE2, lE3]; rfl
 repeat (go_big_quiet_step (fail))
 refine wpQuiet_nil ?_; refine adJ rfl (some 84) rfl rfl ⟨wd.heap.size, Nat.le_refl _, ?_⟩; refine aap (l := ?laBU2N) (t := []) ?hlaBU2N ?htlBU2N ?_
 case hlaBU2N => simp only [pick, lE1, lE2, lE3]; rfl
 case htlBU2N => rfl
 simp only [Act.put, lE4, lE5, lE6]; repeat (go_big_quiet_step (fail))
 refine wpQuiet_nil ?_; have ZD := hE0 ((Hz.start HH.out).below HBD.out); have HTA := hE0 (ab8 HD.out HOK.out N HF.out (by omega) HLI.out s HS.out (by rw [HCP.out]; exact hcap)); clear HD HH; go_wp2_with fail
 refine HTA.out.mono ?_; rintro e w3 ⟨rfl, ht⟩; rw [HTKE.out]; dsimp only [ag6, Option.isSome, Option.getD]; clear HTA; have hsame := acn HTKE.out; rw [hsame] at ht; have hto : Rez F w p (H.resize (xo : Int) s) (.returned (.tuple #[.int .i64 0, .int .i64 5])) w3 := by
  rw [HE.out]; exact ⟨rfl, ZD.out.last ht⟩
 have HTO := hE0 hto; clear hto ht hsame ZD; go_wp2
 go_ret2
 exact HTO.out
theorem ana (h : Hm F w p H Vb Vd gl cs) (hok : H.Ok) (N : Nat) (hf : H.Few N) (hN : N <= 40000) (s : Nat) (hs : aaG (s : Int) = true) (hL : H.Listed) (o : Int) (ho : -9223372036854775808 <= o /\ o <= 9223372036854775807) (i : Nat) (hu : aaK H.blks o = some i) (hlt : (aag H.blks i).size < s) (hE : i + 1 < H.blks.length) (hU : (aag H.blks (i + 1)).used = true) (hb : aa1 H.blks i < s) (he : (aag H.blks i).off + aa1 H.blks i ≠ lenB H.blks) (hc16 : H.cap <= 16384) (q : Nat) (htk : (H.take s).1 = some q) (iq io : Nat) (hiq : atB (q : Int) (H.take s).2.blks = some iq) (hio : atB o (H.take s).2.blks = some io) :
 Calls Tryz.prog 70 #[.pointer (some ⟨p, 0, none⟩), .int .i64 o, .int .i64 (s : Int)] w fun e w' => Rez F w p (H.resize o s) e w' := by
 have hn512 := hok.n; obtain ⟨hi, hoff, _⟩ := abe hu; have hcap : H.cap <= 100000 := by omega
 have hnx : aaH H.blks i = false := by unfold aaH; rw [hU, Bool.not_true, Bool.and_false]
 have hbN := acT hnx; have hg : abp H i s = false := by unfold abp; rw [decide_eq_false he]; rfl
 have e : H.resize o s = ((q, 0), (((H.take s).2.moveD (q : Int) o).giveO o).getD ((H.take s).2.moveD (q : Int) o)) := by unfold Hp.resize; rw [hu]; dsimp only; rw [if_neg (by omega), if_neg (by omega), hg, if_neg (by decide), htk]
 have hss := (aac _).1 hs; have hle := hok.le; obtain ⟨_, hszi, htl⟩ := hok.at_ hi; have htl1 := (aai _ _ _ htl).1; have hsz := (aac _).1 hszi; have HU := hE0 (abq h (by omega) o ho _ hu); have HLEN := hE0 (fun (W : World) (hW : Below w.heap.size w W) => aa8 (h.below hW) (by omega) (by omega)); have HE := hE0 e; obtain ⟨wd, hwd⟩ := nmE w.drew; have hbd := adE hwd; have hd := h.below hbd; obtain ⟨b1, c1, rfl, _, hnc, _⟩ := aav h.ob (by omega); have q1 := h.c1; have r0 := hd.c0; have hpd := hd.lt; have d1 := (h.at_n rfl hi).2.1; have d2 := h.at_n rfl hE; rw [hU] at d2; obtain ⟨_, d3, d4⟩ := d2; have HH := hE0 h; have HD := hE0 hd; have HBD := hE0 hbd; have HWD := hE0 hwd; have HOK := hE0 hok; have HF := hE0 hf; have HS := hE0 hs; have HI := hE0 hi; obtain ⟨xo, hxo⟩ := nmE ((aag H.blks i).off); obtain ⟨xs, hxs⟩ := nmE ((aag H.blks i).size); rw [hxo] at htl1 hoff he; rw [hxs] at d1 hlt hsz htl1 hbN; subst hoff; obtain ⟨bo, hbo⟩ := nmE (aa1 H.blks i); rw [hbo] at hbN hb he; obtain ⟨ll, hll⟩ := nmE (lenB H.blks); rw [hll] at htl1 hle HLEN he; obtain ⟨cap, hcp⟩ := nmE H.cap; rw [hcp] at r0 hcap; obtain ⟨n, hn⟩ := nmE H.blks.length; rw [hn] at q1 hi hnc hn512 hE; have hin : (i : Int) < (n : Int) := by omega
 have hi2 : i <= 512 := by omega
 have hlt2 : (xs : Int) < (s : Int) := by omega
 have hie : (i : Int) + 1 < (n : Int) := by omega
 obtain ⟨k, hk⟩ : ∃ k : Nat, (i : Int) + 1 = (k : Int) := ⟨i + 1, by omega⟩; have HK : Hid (k = i + 1) := (show _ = _ by omega); rw [<- HK.out] at d4 d3; have hkn : (k : Int) < (n : Int) := by omega
 have hbb : bo = xs := hbN; have hbb2 : xs = bo := hbb.symm; subst hbb2; obtain ⟨ob, hob⟩ : ∃ ob : Nat, (xo : Int) + (xs : Int) = (ob : Int) := ⟨xo + xs, by omega⟩; have hne : ((ob : Int) == (ll : Int)) = false := by rw [beq_eq_false_iff_ne]; omega
 have hne2 : (ob == ll) = false := by rw [beq_eq_false_iff_ne]; omega
 have g1 : decide ((s : Int) <= (xs : Int)) = false := decide_eq_false (by omega); have g1' : decide (s <= xs) = false := decide_eq_false (by omega); have hsb2 : (xs : Int) < (s : Int) := by omega
 have z1 : xo <= 16384 := by omega
 have z2 : xs <= 16384 := by omega
 have z3 : ll <= 16384 := by omega
 have z4 : s <= 16384 := by omega
 have z9 : ob <= 65536 := by omega
 have HN := hE0 hn; have HBO := hE0 hbo; have HXO := hE0 hxo; have HXS := hE0 hxs; have HNX := hE0 hnx; have HTKE := hE0 htk; have HLI := hE0 hL; have HIQ := hE0 hiq; have HIO := hE0 hio; have HCP : Hid (H.cap = cap) := hcp; clear h hok hf hu e hn hxo hs hd hbd hwd hbo hll hcp hnx hbN htl1 hle hss hsz htl hszi hlt hb hxs hi hE hU he hg htk hL hiq hio; go_enter Tryz.func70, Tryz.ntmps70
 go_wp2_with fail
 refine HU.out.mono ?_; rintro e w2 ⟨rfl, rfl⟩; clear HU; dsimp only [ixV]; go_wp2_with fail
 refine (HLEN.out _ (Below.refl _ _)).mono ?_; rintro e w2 ⟨rfl, rfl⟩; go_wp2_with fail
 refine aaf wd.heap.size [([0, 1, 2, 3, 4, 5, 6, 8, 10, 12, 13, 14, 15], 7)] [9, 11, 16, 17, 18] [] (by kernel_rfl) (by kernel_rfl) (by kernel_rfl) (fun _ _ _ _ _ h => h) ?_; rw [HWD.out]; refine aaj (l := ?segAU2S) ?hsegAU2S ?_
 case hsegAU2S => simp only [pick, lE1, lE2, lE3]; rfl
 repeat (go_big_quiet_step (fail))
 refine wpQuiet_nil ?_; refine adJ rfl (some 84) rfl rfl ⟨wd.heap.size, Nat.le_refl _, ?_⟩; refine aap (l := ?laBU2S) (t := []) ?hlaBU2S ?htlBU2S ?_
 case hlaBU2S => simp only [pick, lE1, lE2, lE3]; rfl
 case htlBU2S => rfl
 simp only [Act.put, lE4, lE5, lE6]; repeat (go_big_quiet_step (fail))
 refine wpQuiet_nil ?_; have ZD := hE0 ((Hz.start HH.out).below HBD.out); have HTA := hE0 (ab8 HD.out HOK.out N HF.out (by omega) HLI.out s HS.out (by rw [HCP.out]; exact hcap)); clear HD HH; go_wp2_with fail
 refine HTA.out.mono ?_; rintro e w3 ⟨rfl, ht⟩; rw [HTKE.out]; dsimp only [ag6, Option.isSome, Option.getD]; clear HTA; obtain ⟨F3, Vb3, Vd3, gl3, cs3, z3⟩ := ZD.out.step ht; have ok3 := HOK.out.take hc16 HS.out; have fw3 : (H.take s).2.Few (N + 1) := HF.out.take; have hq16 : q <= 100000 := by
  obtain ⟨g1, g2⟩ := abs HIQ.out; have g3 := (aai _ _ _ (ok3.at_ g1).2.2).1; have g4 := ok3.le; omega
 obtain ⟨H3, hH3⟩ := nmE ((H.take s).2); have HIQ3 : Hid (atB (q : Int) H3.blks = some iq) := (show _ = _ by rw [<- hH3]; exact HIQ.out); have HIO3 : Hid (atB (xo : Int) H3.blks = some io) := (show _ = _ by rw [<- hH3]; exact HIO.out); have HE3 : Hid (H.resize (xo : Int) s = ((q, 0), ((H3.moveD (q : Int) (xo : Int)).giveO (xo : Int)).getD (H3.moveD (q : Int) (xo : Int)))) := (show _ = _ by rw [<- hH3]; exact HE.out); rw [hH3] at z3 ok3 fw3; obtain ⟨wx, hwx⟩ := nmE w3.drew; have hbx := adE hwx; have zx := z3.below hbx; have hn3 := ok3.n; have l1 := (abs HIQ3.out).1; have l2 := (abs HIO3.out).1; obtain ⟨bd, cd, rfl, _, hncd, _⟩ := aav zx.hm.od (by rw [ok3.dl]; omega); obtain ⟨dn, hdn⟩ := nmE H3.ds.length; have hdn3 := ok3.dl; rw [hdn] at hdn3 hncd; rw [hdn] at zx; have k1 := zx.hm.c2; have hodx := zx.hm.od; rw [hdn] at hodx; obtain ⟨dv, k2, k3⟩ := aaW hodx (j := io) (by omega); obtain ⟨_, k4, _⟩ := aaW hodx (j := iq) (by omega); have f1 := aas hodx iq; have hsl := zx.hm.sl; have hgd : (H3.ds.getD io aaR).1 = dv := by
  rw [List.getElem?_map] at k3; rw [List.getD_eq_getElem?_getD]
  cases h' : H3.ds[io]? with
  | none => rw [h'] at k3; cases k3
  | some y => rw [h'] at k3; injection k3
 have hslv : ∃ A n c, (H3.ds.getD io aaR).1 = Value.slice A n c := by
  rw [List.getD_eq_getElem?_getD]
  cases h' : H3.ds[io]? with
  | none => exact ⟨_, _, _, rfl⟩
  | some y => exact hsl y (List.mem_of_getElem? h')
 have hmv : H3.moveD (q : Int) (xo : Int) = H3.copyD iq io := by unfold Hp.moveD; rw [HIQ3.out, HIO3.out]
 have z4 := zx.set (a := ⟨bd, iq, none⟩) (u := (H3.ds.getD io aaR).1) (zx.hm.fd bd rfl) (zx.hm.dcell (by rw [hdn]) (H3.ds.getD io aaR) hslv); have z4 : Hz F w p F3 (wx.setCell ⟨bd, iq, none⟩ (H3.ds.getD io aaR).1) (H3.copyD iq io) Vb3 (.slice (some ⟨bd, 0, none⟩) dn cd) gl3 cs3 := z4; rw [hgd, <- hmv] at z4; obtain ⟨w4, hw4⟩ := nmE (wx.setCell ⟨bd, iq, none⟩ dv); rw [hw4] at z4; have bl4 : (H3.moveD (q : Int) (xo : Int)).blks = H3.blks := by rw [hmv]; rfl
 have ok4 : (H3.moveD (q : Int) (xo : Int)).Ok := ⟨by rw [bl4]; exact ok3.tl, by rw [bl4]; exact ok3.le, by rw [hmv]; show (H3.ds.set _ _).length = _; rw [List.length_set]; exact ok3.dl⟩; have fw4 : (H3.moveD (q : Int) (xo : Int)).Few (N + 1) := by rw [hmv]; exact fw3
 have HGV := hE0 (aed z4.hm ok4 (N + 1) fw4 (by omega) (xo : Int) ho); have HA1 := hE0 (acc zx.hm (by omega) (q : Int) (by omega) _ HIQ3.out); have HA2 := hE0 (acc zx.hm (by omega) (xo : Int) ho _ HIO3.out); have hpx := zx.hm.lt; have hbdx : bd < wx.heap.size := own_lt hodx rfl; have Z4 := hE0 z4; have Hw11 := hE0 hwx; have HW4 := hE0 hw4; obtain ⟨Av, nv, cv, hdv⟩ := hslv; rw [hgd] at hdv; subst hdv; have hi1 : (iq : Int) < (dn : Int) := by omega
 have hi2' : (io : Int) < (dn : Int) := by omega
 clear z3 zx z4 ok3 fw3 ok4 fw4 hH3 hwx hbx hodx hsl hgd hmv hw4 bl4 hn3 l1 l2 hdn3 ht ZD HIQ HIO HIQ3 HIO3 hdn k3; go_wp2_with fail
 refine aaf wx.heap.size [([0, 1, 2, 3, 4, 5, 7, 8, 9, 10, 11, 12], 6), ([], 13)] [14, 15, 16] [17] (by kernel_rfl) (by kernel_rfl) (by kernel_rfl) (fun _ _ _ _ _ h => h) ?_; rw [Hw11.out]; have t1 := tfE k1 hpx; refine aaj (l := ?segCU2S) ?hsegCU2S ?_
 case hsegCU2S => simp only [pick, lE1, lE2, lE3]; rfl
 repeat (go_big_quiet_step (fail))
 refine wpQuiet_nil ?_; clear t1; refine aam (vs := #[.pointer (some ⟨p, 0, none⟩), .int .i64 (q : Int)]) Tryz.call65 rfl rfl rfl (R := fun r w' => r = .int .i64 (iq : Int) /\ w' = wx) (HA1.out.mono ?_) wx.heap.size (Nat.le_refl _) ?_
 · rintro e w' ⟨rfl, rfl⟩; exact ⟨_, rfl, Below.refl _ _, rfl, rfl⟩
 rintro r w11 _ ⟨rfl, rfl⟩; refine aaj (l := []) rfl ?_; refine wpQuiet_nil ?_; refine aam (vs := #[.pointer (some ⟨p, 0, none⟩), .int .i64 (xo : Int)]) Tryz.call65 rfl rfl rfl (R := fun r w' => r = .int .i64 (io : Int) /\ w' = w11) (HA2.out.mono ?_) w11.heap.size (Nat.le_refl _) ?_
 · rintro e w' ⟨rfl, rfl⟩; exact ⟨_, rfl, Below.refl _ _, rfl, rfl⟩
 rintro r w12 _ ⟨rfl, rfl⟩; refine aap (l := ?laEU2S) (t := ?tlEU2S) ?hlaEU2S ?htlEU2S ?_
 case hlaEU2S => simp only [pick, lE1, lE2, lE3]; rfl
 case htlEU2S => simp only [pick, lE1, lE2, lE3]; rfl
 simp only [Act.put, lE4, lE5, lE6]; have t2 := tfE k2 hbdx; repeat (go_big_quiet_step (fail))
 refine wpQuiet_nil ?_; clear t2; go_wp2_with (first | (rw [HW4.out]) | fail)
 refine HGV.out.mono ?_; rintro e w5 ⟨rfl, ht⟩; have hto : Rez F w p (H.resize (xo : Int) s) (.returned (.tuple #[.int .i64 (q : Int), .int .i64 0])) w5 := by
  rw [HE3.out]; exact ⟨rfl, Z4.out.last ht⟩
 have HTO := hE0 hto; clear hto ht HGV Z4 k1 k2 k4 f1; go_wp2
 go_ret2
 exact HTO.out
theorem anb (h : Hm F w p H Vb Vd gl cs) (hok : H.Ok) (N : Nat) (hf : H.Few N) (hN : N <= 40000) (s : Nat) (hs : aaG (s : Int) = true) (hcap : H.cap <= 100000) (hL : H.Listed) (o : Int) (ho : -9223372036854775808 <= o /\ o <= 9223372036854775807) (i : Nat) (hu : aaK H.blks o = some i) (hlt : (aag H.blks i).size < s) (hE : i + 1 < H.blks.length) (hU : (aag H.blks (i + 1)).used = false) (hb : aa1 H.blks i < s) (he : (aag H.blks i).off + aa1 H.blks i ≠ lenB H.blks) (htk : (H.take s).1 = none) :
 Calls Tryz.prog 70 #[.pointer (some ⟨p, 0, none⟩), .int .i64 o, .int .i64 (s : Int)] w fun e w' => Rez F w p (H.resize o s) e w' := by
 have hn512 := hok.n; obtain ⟨hi, hoff, _⟩ := abe hu; have hnx : aaH H.blks i = true := by unfold aaH; rw [hU, decide_eq_true hE]; rfl
 have hbN := acx hnx; have hg : abp H i s = false := by unfold abp; rw [decide_eq_false he]; rfl
 have e : H.resize o s = ((0, 5), H) := by unfold Hp.resize; rw [hu]; dsimp only; rw [if_neg (by omega), if_neg (by omega), hg, if_neg (by decide), htk]
 have hss := (aac _).1 hs; have hle := hok.le; obtain ⟨_, hszi, htl⟩ := hok.at_ hi; have htl1 := (aai _ _ _ htl).1; have hsz := (aac _).1 hszi; have HU := hE0 (abq h (by omega) o ho _ hu); have HLEN := hE0 (fun (W : World) (hW : Below w.heap.size w W) => aa8 (h.below hW) (by omega) (by omega)); have h2s := (hok.two hE).2; obtain ⟨k, hk0⟩ := nmE (i + 1); have HOUT := hE0 (fun (W : World) (hW : Below w.heap.size w W) => abA (h.below hW) k (by rw [<- hk0]; exact hE) (hok.sz (by rw [<- hk0]; exact hE)) (fun d hd => Nat.le_trans (hf d hd) (by omega))); have hs2 := (aac _).1 (hok.sz hE); have HE := hE0 e; obtain ⟨wd, hwd⟩ := nmE w.drew; have hbd := adE hwd; have hd := h.below hbd; obtain ⟨b1, c1, rfl, _, hnc, _⟩ := aav h.ob (by omega); have q1 := h.c1; have r0 := hd.c0; have hpd := hd.lt; have d1 := (h.at_n rfl hi).2.1; have d2 := h.at_n rfl hE; rw [hU] at d2; obtain ⟨_, d3, d4⟩ := d2; have HH := hE0 h; have HD := hE0 hd; have HBD := hE0 hbd; have HWD := hE0 hwd; have HOK := hE0 hok; have HF := hE0 hf; have HS := hE0 hs; have HI := hE0 hi; obtain ⟨xo, hxo⟩ := nmE ((aag H.blks i).off); obtain ⟨xs, hxs⟩ := nmE ((aag H.blks i).size); rw [hxo] at htl1 hoff he; rw [hxs] at d1 hlt hsz htl1 hbN h2s; subst hoff; obtain ⟨x2, hx2⟩ := nmE ((aag H.blks (i + 1)).size); rw [hx2] at d3 hbN h2s hs2; obtain ⟨bo, hbo⟩ := nmE (aa1 H.blks i); rw [hbo] at hbN hb he; obtain ⟨ll, hll⟩ := nmE (lenB H.blks); rw [hll] at htl1 hle HLEN he; obtain ⟨cap, hcp⟩ := nmE H.cap; rw [hcp] at r0 hcap; obtain ⟨n, hn⟩ := nmE H.blks.length; rw [hn] at q1 hi hnc hn512 hE; have hin : (i : Int) < (n : Int) := by omega
 have hi2 : i <= 512 := by omega
 have hlt2 : (xs : Int) < (s : Int) := by omega
 have hie : (i : Int) + 1 < (n : Int) := by omega
 have hk : (i : Int) + 1 = (k : Int) := by omega
 have HK : Hid (k = i + 1) := (show _ = _ by omega); rw [<- HK.out] at d4 d3; have hkn : (k : Int) < (n : Int) := by omega
 have hsb : (xs : Int) + (x2 : Int) = (bo : Int) := by omega
 obtain ⟨ob, hob⟩ : ∃ ob : Nat, (xo : Int) + (bo : Int) = (ob : Int) := ⟨xo + bo, by omega⟩; have hne : ((ob : Int) == (ll : Int)) = false := by rw [beq_eq_false_iff_ne]; omega
 have hne2 : (ob == ll) = false := by rw [beq_eq_false_iff_ne]; omega
 have g1 : decide ((s : Int) <= (bo : Int)) = false := decide_eq_false (by omega); have g1' : decide (s <= bo) = false := decide_eq_false (by omega); have hsb2 : (bo : Int) < (s : Int) := by omega
 have hx0 : 0 < (x2 : Int) := by omega
 have z1 : xo <= 16384 := by omega
 have z2 : xs <= 16384 := by omega
 have z3 : ll <= 16384 := by omega
 have z4 : s <= 16384 := by omega
 have z5 : bo <= 32768 := by omega
 have z6 : x2 <= 16384 := by omega
 have z9 : ob <= 65536 := by omega
 have HN := hE0 hn; have HBO := hE0 hbo; have HXO := hE0 hxo; have HXS := hE0 hxs; have HNX := hE0 hnx; have HX2 := hE0 hx2; have HTKE := hE0 htk; have HLI := hE0 hL; have HCP : Hid (H.cap = cap) := hcp; clear h hok hf hu e hn hxo hs hd hbd hwd hbo hll hcp hnx hbN htl1 hle hss hsz htl hszi hlt hb hxs hi hE hx2 hU h2s hs2 hk0 he hg htk hL; go_enter Tryz.func70, Tryz.ntmps70
 go_wp2_with fail
 refine HU.out.mono ?_; rintro e w2 ⟨rfl, rfl⟩; clear HU; dsimp only [ixV]; go_wp2_with fail
 refine (HLEN.out _ (Below.refl _ _)).mono ?_; rintro e w2 ⟨rfl, rfl⟩; go_wp2_with fail
 refine aaf wd.heap.size [([0, 1, 2, 3, 4, 5, 6, 8, 10, 12, 13, 14, 15], 7)] [9, 11, 16, 17, 18] [] (by kernel_rfl) (by kernel_rfl) (by kernel_rfl) (fun _ _ _ _ _ h => h) ?_; rw [HWD.out]; refine aaj (l := ?segAY2N) ?hsegAY2N ?_
 case hsegAY2N => simp only [pick, lE1, lE2, lE3]; rfl
 repeat (go_big_quiet_step (fail))
 refine wpQuiet_nil ?_; refine adJ rfl (some 84) rfl rfl ⟨wd.heap.size, Nat.le_refl _, ?_⟩; refine aap (l := ?laBY2N) (t := []) ?hlaBY2N ?htlBY2N ?_
 case hlaBY2N => simp only [pick, lE1, lE2, lE3]; rfl
 case htlBY2N => rfl
 simp only [Act.put, lE4, lE5, lE6]; repeat (go_big_quiet_step (fail))
 refine wpQuiet_nil ?_; have ZD := hE0 ((Hz.start HH.out).below HBD.out); have HTA := hE0 (ab8 HD.out HOK.out N HF.out (by omega) HLI.out s HS.out (by rw [HCP.out]; exact hcap)); clear HD HH HOUT; go_wp2_with fail
 refine HTA.out.mono ?_; rintro e w3 ⟨rfl, ht⟩; rw [HTKE.out]; dsimp only [ag6, Option.isSome, Option.getD]; clear HTA; have hsame := acn HTKE.out; rw [hsame] at ht; have hto : Rez F w p (H.resize (xo : Int) s) (.returned (.tuple #[.int .i64 0, .int .i64 5])) w3 := by
  rw [HE.out]; exact ⟨rfl, ZD.out.last ht⟩
 have HTO := hE0 hto; clear hto ht hsame ZD; go_wp2
 go_ret2
 exact HTO.out
theorem anc (h : Hm F w p H Vb Vd gl cs) (hok : H.Ok) (N : Nat) (hf : H.Few N) (hN : N <= 40000) (s : Nat) (hs : aaG (s : Int) = true) (hL : H.Listed) (o : Int) (ho : -9223372036854775808 <= o /\ o <= 9223372036854775807) (i : Nat) (hu : aaK H.blks o = some i) (hlt : (aag H.blks i).size < s) (hE : i + 1 < H.blks.length) (hU : (aag H.blks (i + 1)).used = false) (hb : aa1 H.blks i < s) (he : (aag H.blks i).off + aa1 H.blks i ≠ lenB H.blks) (hc16 : H.cap <= 16384) (q : Nat) (htk : (H.take s).1 = some q) (iq io : Nat) (hiq : atB (q : Int) (H.take s).2.blks = some iq) (hio : atB o (H.take s).2.blks = some io) :
 Calls Tryz.prog 70 #[.pointer (some ⟨p, 0, none⟩), .int .i64 o, .int .i64 (s : Int)] w fun e w' => Rez F w p (H.resize o s) e w' := by
 have hn512 := hok.n; obtain ⟨hi, hoff, _⟩ := abe hu; have hcap : H.cap <= 100000 := by omega
 have hnx : aaH H.blks i = true := by unfold aaH; rw [hU, decide_eq_true hE]; rfl
 have hbN := acx hnx; have hg : abp H i s = false := by unfold abp; rw [decide_eq_false he]; rfl
 have e : H.resize o s = ((q, 0), (((H.take s).2.moveD (q : Int) o).giveO o).getD ((H.take s).2.moveD (q : Int) o)) := by unfold Hp.resize; rw [hu]; dsimp only; rw [if_neg (by omega), if_neg (by omega), hg, if_neg (by decide), htk]
 have hss := (aac _).1 hs; have hle := hok.le; obtain ⟨_, hszi, htl⟩ := hok.at_ hi; have htl1 := (aai _ _ _ htl).1; have hsz := (aac _).1 hszi; have HU := hE0 (abq h (by omega) o ho _ hu); have HLEN := hE0 (fun (W : World) (hW : Below w.heap.size w W) => aa8 (h.below hW) (by omega) (by omega)); have h2s := (hok.two hE).2; obtain ⟨k, hk0⟩ := nmE (i + 1); have HOUT := hE0 (fun (W : World) (hW : Below w.heap.size w W) => abA (h.below hW) k (by rw [<- hk0]; exact hE) (hok.sz (by rw [<- hk0]; exact hE)) (fun d hd => Nat.le_trans (hf d hd) (by omega))); have hs2 := (aac _).1 (hok.sz hE); have HE := hE0 e; obtain ⟨wd, hwd⟩ := nmE w.drew; have hbd := adE hwd; have hd := h.below hbd; obtain ⟨b1, c1, rfl, _, hnc, _⟩ := aav h.ob (by omega); have q1 := h.c1; have r0 := hd.c0; have hpd := hd.lt; have d1 := (h.at_n rfl hi).2.1; have d2 := h.at_n rfl hE; rw [hU] at d2; obtain ⟨_, d3, d4⟩ := d2; have HH := hE0 h; have HD := hE0 hd; have HBD := hE0 hbd; have HWD := hE0 hwd; have HOK := hE0 hok; have HF := hE0 hf; have HS := hE0 hs; have HI := hE0 hi; obtain ⟨xo, hxo⟩ := nmE ((aag H.blks i).off); obtain ⟨xs, hxs⟩ := nmE ((aag H.blks i).size); rw [hxo] at htl1 hoff he; rw [hxs] at d1 hlt hsz htl1 hbN h2s; subst hoff; obtain ⟨x2, hx2⟩ := nmE ((aag H.blks (i + 1)).size); rw [hx2] at d3 hbN h2s hs2; obtain ⟨bo, hbo⟩ := nmE (aa1 H.blks i); rw [hbo] at hbN hb he; obtain ⟨ll, hll⟩ := nmE (lenB H.blks); rw [hll] at htl1 hle HLEN he; obtain ⟨cap, hcp⟩ := nmE H.cap; rw [hcp] at r0 hcap; obtain ⟨n, hn⟩ := nmE H.blks.length; rw [hn] at q1 hi hnc hn512 hE; have hin : (i : Int) < (n : Int) := by omega
 have hi2 : i <= 512 := by omega
 have hlt2 : (xs : Int) < (s : Int) := by omega
 have hie : (i : Int) + 1 < (n : Int) := by omega
 have hk : (i : Int) + 1 = (k : Int) := by omega
 have HK : Hid (k = i + 1) := (show _ = _ by omega); rw [<- HK.out] at d4 d3; have hkn : (k : Int) < (n : Int) := by omega
 have hsb : (xs : Int) + (x2 : Int) = (bo : Int) := by omega
 obtain ⟨ob, hob⟩ : ∃ ob : Nat, (xo : Int) + (bo : Int) = (ob : Int) := ⟨xo + bo, by omega⟩; have hne : ((ob : Int) == (ll : Int)) = false := by rw [beq_eq_false_iff_ne]; omega
 have hne2 : (ob == ll) = false := by rw [beq_eq_false_iff_ne]; omega
 have g1 : decide ((s : Int) <= (bo : Int)) = false := decide_eq_false (by omega); have g1' : decide (s <= bo) = false := decide_eq_false (by omega); have hsb2 : (bo : Int) < (s : Int) := by omega
 have hx0 : 0 < (x2 : Int) := by omega
 have z1 : xo <= 16384 := by omega
 have z2 : xs <= 16384 := by omega
 have z3 : ll <= 16384 := by omega
 have z4 : s <= 16384 := by omega
 have z5 : bo <= 32768 := by omega
 have z6 : x2 <= 16384 := by omega
 have z9 : ob <= 65536 := by omega
 have HN := hE0 hn; have HBO := hE0 hbo; have HXO := hE0 hxo; have HXS := hE0 hxs; have HNX := hE0 hnx; have HX2 := hE0 hx2; have HTKE := hE0 htk; have HLI := hE0 hL; have HIQ := hE0 hiq; have HIO := hE0 hio; have HCP : Hid (H.cap = cap) := hcp; clear h hok hf hu e hn hxo hs hd hbd hwd hbo hll hcp hnx hbN htl1 hle hss hsz htl hszi hlt hb hxs hi hE hx2 hU h2s hs2 hk0 he hg htk hL hiq hio; go_enter Tryz.func70, Tryz.ntmps70
 go_wp2_with fail
 refine HU.out.mono ?_; rintro e w2 ⟨rfl, rfl⟩; clear HU; dsimp only [ixV]; go_wp2_with fail
 refine (HLEN.out _ (Below.refl _ _)).mono ?_; rintro e w2 ⟨rfl, rfl⟩; go_wp2_with fail
 refine aaf wd.heap.size [([0, 1, 2, 3, 4, 5, 6, 8, 10, 12, 13, 14, 15], 7)] [9, 11, 16, 17, 18] [] (by kernel_rfl) (by kernel_rfl) (by kernel_rfl) (fun _ _ _ _ _ h => h) ?_; rw [HWD.out]; refine aaj (l := ?segAY2S) ?hsegAY2S ?_
 case hsegAY2S => simp only [pick, lE1, lE2, lE3]; rfl
 repeat (go_big_quiet_step (fail))
 refine wpQuiet_nil ?_; refine adJ rfl (some 84) rfl rfl ⟨wd.heap.size, Nat.le_refl _, ?_⟩; refine aap (l := ?laBY2S) (t := []) ?hlaBY2S ?htlBY2S ?_
 case hlaBY2S => simp only [pick, lE1, lE2, lE3]; rfl
 case htlBY2S => rfl
 simp only [Act.put, lE4, lE5, lE6]; repeat (go_big_quiet_step (fail))
 refine wpQuiet_nil ?_; have ZD := hE0 ((Hz.start HH.out).below HBD.out); have HTA := hE0 (ab8 HD.out HOK.out N HF.out (by omega) HLI.out s HS.out (by rw [HCP.out]; exact hcap)); clear HD HH HOUT; go_wp2_with fail
 refine HTA.out.mono ?_; rintro e w3 ⟨rfl, ht⟩; rw [HTKE.out]; dsimp only [ag6, Option.isSome, Option.getD]; clear HTA; obtain ⟨F3, Vb3, Vd3, gl3, cs3, z3⟩ := ZD.out.step ht; have ok3 := HOK.out.take hc16 HS.out; have fw3 : (H.take s).2.Few (N + 1) := HF.out.take; have hq16 : q <= 100000 := by
  obtain ⟨g1, g2⟩ := abs HIQ.out; have g3 := (aai _ _ _ (ok3.at_ g1).2.2).1; have g4 := ok3.le; omega
 obtain ⟨H3, hH3⟩ := nmE ((H.take s).2); have HIQ3 : Hid (atB (q : Int) H3.blks = some iq) := (show _ = _ by rw [<- hH3]; exact HIQ.out); have HIO3 : Hid (atB (xo : Int) H3.blks = some io) := (show _ = _ by rw [<- hH3]; exact HIO.out); have HE3 : Hid (H.resize (xo : Int) s = ((q, 0), ((H3.moveD (q : Int) (xo : Int)).giveO (xo : Int)).getD (H3.moveD (q : Int) (xo : Int)))) := (show _ = _ by rw [<- hH3]; exact HE.out); rw [hH3] at z3 ok3 fw3; obtain ⟨wx, hwx⟩ := nmE w3.drew; have hbx := adE hwx; have zx := z3.below hbx; have hn3 := ok3.n; have l1 := (abs HIQ3.out).1; have l2 := (abs HIO3.out).1; obtain ⟨bd, cd, rfl, _, hncd, _⟩ := aav zx.hm.od (by rw [ok3.dl]; omega); obtain ⟨dn, hdn⟩ := nmE H3.ds.length; have hdn3 := ok3.dl; rw [hdn] at hdn3 hncd; rw [hdn] at zx; have k1 := zx.hm.c2; have hodx := zx.hm.od; rw [hdn] at hodx; obtain ⟨dv, k2, k3⟩ := aaW hodx (j := io) (by omega); obtain ⟨_, k4, _⟩ := aaW hodx (j := iq) (by omega); have f1 := aas hodx iq; have hsl := zx.hm.sl; have hgd : (H3.ds.getD io aaR).1 = dv := by
  rw [List.getElem?_map] at k3; rw [List.getD_eq_getElem?_getD]
  cases h' : H3.ds[io]? with
  | none => rw [h'] at k3; cases k3
  | some y => rw [h'] at k3; injection k3
 have hslv : ∃ A n c, (H3.ds.getD io aaR).1 = Value.slice A n c := by
  rw [List.getD_eq_getElem?_getD]
  cases h' : H3.ds[io]? with
  | none => exact ⟨_, _, _, rfl⟩
  | some y => exact hsl y (List.mem_of_getElem? h')
 have hmv : H3.moveD (q : Int) (xo : Int) = H3.copyD iq io := by unfold Hp.moveD; rw [HIQ3.out, HIO3.out]
 have z4 := zx.set (a := ⟨bd, iq, none⟩) (u := (H3.ds.getD io aaR).1) (zx.hm.fd bd rfl) (zx.hm.dcell (by rw [hdn]) (H3.ds.getD io aaR) hslv); have z4 : Hz F w p F3 (wx.setCell ⟨bd, iq, none⟩ (H3.ds.getD io aaR).1) (H3.copyD iq io) Vb3 (.slice (some ⟨bd, 0, none⟩) dn cd) gl3 cs3 := z4; rw [hgd, <- hmv] at z4; obtain ⟨w4, hw4⟩ := nmE (wx.setCell ⟨bd, iq, none⟩ dv); rw [hw4] at z4; have bl4 : (H3.moveD (q : Int) (xo : Int)).blks = H3.blks := by rw [hmv]; rfl
 have ok4 : (H3.moveD (q : Int) (xo : Int)).Ok := ⟨by rw [bl4]; exact ok3.tl, by rw [bl4]; exact ok3.le, by rw [hmv]; show (H3.ds.set _ _).length = _; rw [List.length_set]; exact ok3.dl⟩; have fw4 : (H3.moveD (q : Int) (xo : Int)).Few (N + 1) := by rw [hmv]; exact fw3
 have HGV := hE0 (aed z4.hm ok4 (N + 1) fw4 (by omega) (xo : Int) ho); have HA1 := hE0 (acc zx.hm (by omega) (q : Int) (by omega) _ HIQ3.out); have HA2 := hE0 (acc zx.hm (by omega) (xo : Int) ho _ HIO3.out); have hpx := zx.hm.lt; have hbdx : bd < wx.heap.size := own_lt hodx rfl; have Z4 := hE0 z4; have Hw11 := hE0 hwx; have HW4 := hE0 hw4; obtain ⟨Av, nv, cv, hdv⟩ := hslv; rw [hgd] at hdv; subst hdv; have hi1 : (iq : Int) < (dn : Int) := by omega
 have hi2' : (io : Int) < (dn : Int) := by omega
 clear z3 zx z4 ok3 fw3 ok4 fw4 hH3 hwx hbx hodx hsl hgd hmv hw4 bl4 hn3 l1 l2 hdn3 ht ZD HIQ HIO HIQ3 HIO3 hdn k3; go_wp2_with fail
 refine aaf wx.heap.size [([0, 1, 2, 3, 4, 5, 7, 8, 9, 10, 11, 12], 6), ([], 13)] [14, 15, 16] [17] (by kernel_rfl) (by kernel_rfl) (by kernel_rfl) (fun _ _ _ _ _ h => h) ?_; rw [Hw11.out]; have t1 := tfE k1 hpx; refine aaj (l := ?segCY2S) ?hsegCY2S ?_
 case hsegCY2S => simp only [pick, lE1, lE2, lE3]; rfl
 repeat (go_big_quiet_step (fail))
 refine wpQuiet_nil ?_; clear t1; refine aam (vs := #[.pointer (some ⟨p, 0, none⟩), .int .i64 (q : Int)]) Tryz.call65 rfl rfl rfl (R := fun r w' => r = .int .i64 (iq : Int) /\ w' = wx) (HA1.out.mono ?_) wx.heap.size (Nat.le_refl _) ?_
 · rintro e w' ⟨rfl, rfl⟩; exact ⟨_, rfl, Below.refl _ _, rfl, rfl⟩
 rintro r w11 _ ⟨rfl, rfl⟩; refine aaj (l := []) rfl ?_; refine wpQuiet_nil ?_; refine aam (vs := #[.pointer (some ⟨p, 0, none⟩), .int .i64 (xo : Int)]) Tryz.call65 rfl rfl rfl (R := fun r w' => r = .int .i64 (io : Int) /\ w' = w11) (HA2.out.mono ?_) w11.heap.size (Nat.le_refl _) ?_
 · rintro e w' ⟨rfl, rfl⟩; exact ⟨_, rfl, Below.refl _ _, rfl, rfl⟩
 rintro r w12 _ ⟨rfl, rfl⟩; refine aap (l := ?laEY2S) (t := ?tlEY2S) ?hlaEY2S ?htlEY2S ?_
 case hlaEY2S => simp only [pick, lE1, lE2, lE3]; rfl
 case htlEY2S => simp only [pick, lE1, lE2, lE3]; rfl
 simp only [Act.put, lE4, lE5, lE6]; have t2 := tfE k2 hbdx; repeat (go_big_quiet_step (fail))
 refine wpQuiet_nil ?_; clear t2; go_wp2_with (first | (rw [HW4.out]) | fail)
 refine HGV.out.mono ?_; rintro e w5 ⟨rfl, ht⟩; have hto : Rez F w p (H.resize (xo : Int) s) (.returned (.tuple #[.int .i64 (q : Int), .int .i64 0])) w5 := by
  rw [HE3.out]; exact ⟨rfl, Z4.out.last ht⟩
 have HTO := hE0 hto; clear hto ht HGV Z4 k1 k2 k4 f1; go_wp2
 go_ret2
 exact HTO.out
theorem ane (h : Hm F w p H Vb Vd gl cs) (hok : H.Ok) (N : Nat) (hf : H.Few N) (hN : N <= 40000) (s : Nat) (hs : aaG (s : Int) = true) (hcap : H.cap <= 100000) (hL : H.Listed) (o : Int) (ho : -9223372036854775808 <= o /\ o <= 9223372036854775807) (i : Nat) (hu : aaK H.blks o = some i) (hlt : (aag H.blks i).size < s) (hE : i + 1 < H.blks.length) (hU : (aag H.blks (i + 1)).used = false) (hb : aa1 H.blks i < s) (he : (aag H.blks i).off + aa1 H.blks i = lenB H.blks) (hfit : ¬ lenB H.blks + s - aa1 H.blks i <= H.cap) (htk : (H.take s).1 = none) :
 Calls Tryz.prog 70 #[.pointer (some ⟨p, 0, none⟩), .int .i64 o, .int .i64 (s : Int)] w fun e w' => Rez F w p (H.resize o s) e w' := by
 have hn512 := hok.n; obtain ⟨hi, hoff, _⟩ := abe hu; have hnx : aaH H.blks i = true := by unfold aaH; rw [hU, decide_eq_true hE]; rfl
 have hbN := acx hnx; have hg : abp H i s = false := by unfold abp; rw [decide_eq_false hfit, Bool.and_false]
 have e : H.resize o s = ((0, 5), H) := by unfold Hp.resize; rw [hu]; dsimp only; rw [if_neg (by omega), if_neg (by omega), hg, if_neg (by decide), htk]
 have hss := (aac _).1 hs; have hle := hok.le; obtain ⟨_, hszi, htl⟩ := hok.at_ hi; have htl1 := (aai _ _ _ htl).1; have hsz := (aac _).1 hszi; have HU := hE0 (abq h (by omega) o ho _ hu); have HLEN := hE0 (fun (W : World) (hW : Below w.heap.size w W) => aa8 (h.below hW) (by omega) (by omega)); have h2s := (hok.two hE).2; obtain ⟨k, hk0⟩ := nmE (i + 1); have HOUT := hE0 (fun (W : World) (hW : Below w.heap.size w W) => abA (h.below hW) k (by rw [<- hk0]; exact hE) (hok.sz (by rw [<- hk0]; exact hE)) (fun d hd => Nat.le_trans (hf d hd) (by omega))); have hs2 := (aac _).1 (hok.sz hE); have HE := hE0 e; obtain ⟨wd, hwd⟩ := nmE w.drew; have hbd := adE hwd; have hd := h.below hbd; obtain ⟨b1, c1, rfl, _, hnc, _⟩ := aav h.ob (by omega); have q1 := h.c1; have r0 := hd.c0; have hpd := hd.lt; have d1 := (h.at_n rfl hi).2.1; have d2 := h.at_n rfl hE; rw [hU] at d2; obtain ⟨_, d3, d4⟩ := d2; have HH := hE0 h; have HD := hE0 hd; have HBD := hE0 hbd; have HWD := hE0 hwd; have HOK := hE0 hok; have HF := hE0 hf; have HS := hE0 hs; have HI := hE0 hi; obtain ⟨xo, hxo⟩ := nmE ((aag H.blks i).off); obtain ⟨xs, hxs⟩ := nmE ((aag H.blks i).size); rw [hxo] at htl1 hoff he; rw [hxs] at d1 hlt hsz htl1 hbN h2s; subst hoff; obtain ⟨x2, hx2⟩ := nmE ((aag H.blks (i + 1)).size); rw [hx2] at d3 hbN h2s hs2; obtain ⟨bo, hbo⟩ := nmE (aa1 H.blks i); rw [hbo] at hbN hb he hfit; obtain ⟨ll, hll⟩ := nmE (lenB H.blks); rw [hll] at htl1 hle HLEN he hfit; obtain ⟨cap, hcp⟩ := nmE H.cap; rw [hcp] at r0 hcap hfit; obtain ⟨n, hn⟩ := nmE H.blks.length; rw [hn] at q1 hi hnc hn512 hE; have hin : (i : Int) < (n : Int) := by omega
 have hi2 : i <= 512 := by omega
 have hlt2 : (xs : Int) < (s : Int) := by omega
 have hie : (i : Int) + 1 < (n : Int) := by omega
 have hk : (i : Int) + 1 = (k : Int) := by omega
 have HK : Hid (k = i + 1) := (show _ = _ by omega); rw [<- HK.out] at d4 d3; have hkn : (k : Int) < (n : Int) := by omega
 have hsb : (xs : Int) + (x2 : Int) = (bo : Int) := by omega
 have hend : (xo : Int) + (bo : Int) = (ll : Int) := by omega
 have g1 : decide ((s : Int) <= (bo : Int)) = false := decide_eq_false (by omega); have g1' : decide (s <= bo) = false := decide_eq_false (by omega); have hsb2 : (bo : Int) < (s : Int) := by omega
 obtain ⟨ls, hls⟩ : ∃ ls : Nat, (ll : Int) + (s : Int) = (ls : Int) := ⟨ll + s, by omega⟩; obtain ⟨lb, hlb⟩ : ∃ lb : Nat, (ls : Int) - (bo : Int) = (lb : Int) := ⟨ll + s - bo, by omega⟩; have g2 : decide ((lb : Int) <= (cap : Int)) = false := decide_eq_false (by omega); have g2' : decide (lb <= cap) = false := decide_eq_false (by omega); have hx0 : 0 < (x2 : Int) := by omega
 have z1 : xo <= 16384 := by omega
 have z2 : xs <= 16384 := by omega
 have z3 : ll <= 16384 := by omega
 have z4 : s <= 16384 := by omega
 have z5 : bo <= 32768 := by omega
 have z6 : x2 <= 16384 := by omega
 have z7 : ls <= 32768 := by omega
 have z8 : lb <= 32768 := by omega
 have HN := hE0 hn; have HBO := hE0 hbo; have HXO := hE0 hxo; have HXS := hE0 hxs; have HNX := hE0 hnx; have HX2 := hE0 hx2; have HTKE := hE0 htk; have HLI := hE0 hL; have HCP : Hid (H.cap = cap) := hcp; clear h hok hf hu e hn hxo hs hd hbd hwd hbo hll hcp hnx hbN htl1 hle hss hsz htl hszi hlt hb hxs hi hE hx2 hU h2s hs2 hk0 he hfit hg htk hL; go_enter Tryz.func70, Tryz.ntmps70
 go_wp2_with fail
 refine HU.out.mono ?_; rintro e w2 ⟨rfl, rfl⟩; clear HU; dsimp only [ixV]; go_wp2_with fail
 refine (HLEN.out _ (Below.refl _ _)).mono ?_; rintro e w2 ⟨rfl, rfl⟩; go_wp2_with fail
 refine aaf wd.heap.size [([0, 1, 2, 3, 4, 5, 6, 8, 10, 12, 13, 14, 15], 7)] [9, 11, 16, 17, 18] [] (by kernel_rfl) (by kernel_rfl) (by kernel_rfl) (fun _ _ _ _ _ h => h) ?_; rw [HWD.out]; have t1 := tfE r0 hpd; refine aaj (l := ?segAY3N) ?hsegAY3N ?_
 case hsegAY3N => simp only [pick, lE1, lE2, lE3]; rfl
 repeat (go_big_quiet_step (fail))
 refine wpQuiet_nil ?_; clear t1; refine aam (vs := #[.pointer (some ⟨p, 0, none⟩)]) Tryz.call17 rfl rfl rfl (R := fun r w' => r = .int .i64 (ll : Int) /\ w' = wd) ((HLEN.out wd HBD.out).mono ?_) wd.heap.size (Nat.le_refl _) ?_
 · rintro e w' ⟨rfl, rfl⟩; exact ⟨_, rfl, Below.refl _ _, rfl, rfl⟩
 rintro r w11 _ ⟨rfl, hw11⟩; have hw11' := hw11.symm; subst hw11'; refine aap (l := ?laBY3N) (t := []) ?hlaBY3N ?htlBY3N ?_
 case hlaBY3N => simp only [pick, lE1, lE2, lE3]; rfl
 case htlBY3N => rfl
 simp only [Act.put, lE4, lE5, lE6]; repeat (go_big_quiet_step (fail))
 refine wpQuiet_nil ?_; have ZD := hE0 ((Hz.start HH.out).below HBD.out); have HTA := hE0 (ab8 HD.out HOK.out N HF.out (by omega) HLI.out s HS.out (by rw [HCP.out]; exact hcap)); clear HD HH HOUT; go_wp2_with fail
 refine HTA.out.mono ?_; rintro e w3 ⟨rfl, ht⟩; rw [HTKE.out]; dsimp only [ag6, Option.isSome, Option.getD]; clear HTA; have hsame := acn HTKE.out; rw [hsame] at ht; have hto : Rez F w p (H.resize (xo : Int) s) (.returned (.tuple #[.int .i64 0, .int .i64 5])) w3 := by
  rw [HE.out]; exact ⟨rfl, ZD.out.last ht⟩
 have HTO := hE0 hto; clear hto ht hsame ZD; go_wp2
 go_ret2
 exact HTO.out
theorem anf (h : Hm F w p H Vb Vd gl cs) (hok : H.Ok) (N : Nat) (hf : H.Few N) (hN : N <= 40000) (s : Nat) (hs : aaG (s : Int) = true) (hL : H.Listed) (o : Int) (ho : -9223372036854775808 <= o /\ o <= 9223372036854775807) (i : Nat) (hu : aaK H.blks o = some i) (hlt : (aag H.blks i).size < s) (hE : i + 1 < H.blks.length) (hU : (aag H.blks (i + 1)).used = false) (hb : aa1 H.blks i < s) (he : (aag H.blks i).off + aa1 H.blks i = lenB H.blks) (hfit : ¬ lenB H.blks + s - aa1 H.blks i <= H.cap) (hc16 : H.cap <= 16384) (q : Nat) (htk : (H.take s).1 = some q) (iq io : Nat) (hiq : atB (q : Int) (H.take s).2.blks = some iq) (hio : atB o (H.take s).2.blks = some io) :
 Calls Tryz.prog 70 #[.pointer (some ⟨p, 0, none⟩), .int .i64 o, .int .i64 (s : Int)] w fun e w' => Rez F w p (H.resize o s) e w' := by
 have hn512 := hok.n; obtain ⟨hi, hoff, _⟩ := abe hu; have hcap : H.cap <= 100000 := by omega
 have hnx : aaH H.blks i = true := by unfold aaH; rw [hU, decide_eq_true hE]; rfl
 have hbN := acx hnx; have hg : abp H i s = false := by unfold abp; rw [decide_eq_false hfit, Bool.and_false]
 have e : H.resize o s = ((q, 0), (((H.take s).2.moveD (q : Int) o).giveO o).getD ((H.take s).2.moveD (q : Int) o)) := by unfold Hp.resize; rw [hu]; dsimp only; rw [if_neg (by omega), if_neg (by omega), hg, if_neg (by decide), htk]
 have hss := (aac _).1 hs; have hle := hok.le; obtain ⟨_, hszi, htl⟩ := hok.at_ hi; have htl1 := (aai _ _ _ htl).1; have hsz := (aac _).1 hszi; have HU := hE0 (abq h (by omega) o ho _ hu); have HLEN := hE0 (fun (W : World) (hW : Below w.heap.size w W) => aa8 (h.below hW) (by omega) (by omega)); have h2s := (hok.two hE).2; obtain ⟨k, hk0⟩ := nmE (i + 1); have HOUT := hE0 (fun (W : World) (hW : Below w.heap.size w W) => abA (h.below hW) k (by rw [<- hk0]; exact hE) (hok.sz (by rw [<- hk0]; exact hE)) (fun d hd => Nat.le_trans (hf d hd) (by omega))); have hs2 := (aac _).1 (hok.sz hE); have HE := hE0 e; obtain ⟨wd, hwd⟩ := nmE w.drew; have hbd := adE hwd; have hd := h.below hbd; obtain ⟨b1, c1, rfl, _, hnc, _⟩ := aav h.ob (by omega); have q1 := h.c1; have r0 := hd.c0; have hpd := hd.lt; have d1 := (h.at_n rfl hi).2.1; have d2 := h.at_n rfl hE; rw [hU] at d2; obtain ⟨_, d3, d4⟩ := d2; have HH := hE0 h; have HD := hE0 hd; have HBD := hE0 hbd; have HWD := hE0 hwd; have HOK := hE0 hok; have HF := hE0 hf; have HS := hE0 hs; have HI := hE0 hi; obtain ⟨xo, hxo⟩ := nmE ((aag H.blks i).off); obtain ⟨xs, hxs⟩ := nmE ((aag H.blks i).size); rw [hxo] at htl1 hoff he; rw [hxs] at d1 hlt hsz htl1 hbN h2s; subst hoff; obtain ⟨x2, hx2⟩ := nmE ((aag H.blks (i + 1)).size); rw [hx2] at d3 hbN h2s hs2; obtain ⟨bo, hbo⟩ := nmE (aa1 H.blks i); rw [hbo] at hbN hb he hfit; obtain ⟨ll, hll⟩ := nmE (lenB H.blks); rw [hll] at htl1 hle HLEN he hfit; obtain ⟨cap, hcp⟩ := nmE H.cap; rw [hcp] at r0 hcap hfit; obtain ⟨n, hn⟩ := nmE H.blks.length; rw [hn] at q1 hi hnc hn512 hE; have hin : (i : Int) < (n : Int) := by omega
 have hi2 : i <= 512 := by omega
 have hlt2 : (xs : Int) < (s : Int) := by omega
 have hie : (i : Int) + 1 < (n : Int) := by omega
 have hk : (i : Int) + 1 = (k : Int) := by omega
 have HK : Hid (k = i + 1) := (show _ = _ by omega); rw [<- HK.out] at d4 d3; have hkn : (k : Int) < (n : Int) := by omega
 have hsb : (xs : Int) + (x2 : Int) = (bo : Int) := by omega
 have hend : (xo : Int) + (bo : Int) = (ll : Int) := by omega
 have g1 : decide ((s : Int) <= (bo : Int)) = false := decide_eq_false (by omega); have g1' : decide (s <= bo) = false := decide_eq_false (by omega); have hsb2 : (bo : Int) < (s : Int) := by omega
 obtain ⟨ls, hls⟩ : ∃ ls : Nat, (ll : Int) + (s : Int) = (ls : Int) := ⟨ll + s, by omega⟩; obtain ⟨lb, hlb⟩ : ∃ lb : Nat, (ls : Int) - (bo : Int) = (lb : Int) := ⟨ll + s - bo, by omega⟩; have g2 : decide ((lb : Int) <= (cap : Int)) = false := decide_eq_false (by omega); have g2' : decide (lb <= cap) = false := decide_eq_false (by omega); have hx0 : 0 < (x2 : Int) := by omega
 have z1 : xo <= 16384 := by omega
 have z2 : xs <= 16384 := by omega
 have z3 : ll <= 16384 := by omega
 have z4 : s <= 16384 := by omega
 have z5 : bo <= 32768 := by omega
 have z6 : x2 <= 16384 := by omega
 have z7 : ls <= 32768 := by omega
 have z8 : lb <= 32768 := by omega
 have HN := hE0 hn; have HBO := hE0 hbo; have HXO := hE0 hxo; have HXS := hE0 hxs; have HNX := hE0 hnx; have HX2 := hE0 hx2; have HTKE := hE0 htk; have HLI := hE0 hL; have HIQ := hE0 hiq; have HIO := hE0 hio; have HCP : Hid (H.cap = cap) := hcp; clear h hok hf hu e hn hxo hs hd hbd hwd hbo hll hcp hnx hbN htl1 hle hss hsz htl hszi hlt hb hxs hi hE hx2 hU h2s hs2 hk0 he hfit hg htk hL hiq hio; go_enter Tryz.func70, Tryz.ntmps70
 go_wp2_with fail
 refine HU.out.mono ?_; rintro e w2 ⟨rfl, rfl⟩; clear HU; dsimp only [ixV]; go_wp2_with fail
 refine (HLEN.out _ (Below.refl _ _)).mono ?_; rintro e w2 ⟨rfl, rfl⟩; go_wp2_with fail
 refine aaf wd.heap.size [([0, 1, 2, 3, 4, 5, 6, 8, 10, 12, 13, 14, 15], 7)] [9, 11, 16, 17, 18] [] (by kernel_rfl) (by kernel_rfl) (by kernel_rfl) (fun _ _ _ _ _ h => h) ?_; rw [HWD.out]; have t1 := tfE r0 hpd; refine aaj (l := ?segAY3S) ?hsegAY3S ?_
 case hsegAY3S => simp only [pick, lE1, lE2, lE3]; rfl
 repeat (go_big_quiet_step (fail))
 refine wpQuiet_nil ?_; clear t1; refine aam (vs := #[.pointer (some ⟨p, 0, none⟩)]) Tryz.call17 rfl rfl rfl (R := fun r w' => r = .int .i64 (ll : Int) /\ w' = wd) ((HLEN.out wd HBD.out).mono ?_) wd.heap.size (Nat.le_refl _) ?_
 · rintro e w' ⟨rfl, rfl⟩; exact ⟨_, rfl, Below.refl _ _, rfl, rfl⟩
 rintro r w11 _ ⟨rfl, hw11⟩; have hw11' := hw11.symm; subst hw11'; refine aap (l := ?laBY3S) (t := []) ?hlaBY3S ?htlBY3S ?_
 case hlaBY3S => simp only [pick, lE1, lE2, lE3]; rfl
 case htlBY3S => rfl
 simp only [Act.put, lE4, lE5, lE6]; repeat (go_big_quiet_step (fail))
 refine wpQuiet_nil ?_; have ZD := hE0 ((Hz.start HH.out).below HBD.out); have HTA := hE0 (ab8 HD.out HOK.out N HF.out (by omega) HLI.out s HS.out (by rw [HCP.out]; exact hcap)); clear HD HH HOUT; go_wp2_with fail
 refine HTA.out.mono ?_; rintro e w3 ⟨rfl, ht⟩; rw [HTKE.out]; dsimp only [ag6, Option.isSome, Option.getD]; clear HTA; obtain ⟨F3, Vb3, Vd3, gl3, cs3, z3⟩ := ZD.out.step ht; have ok3 := HOK.out.take hc16 HS.out; have fw3 : (H.take s).2.Few (N + 1) := HF.out.take; have hq16 : q <= 100000 := by
  obtain ⟨g1, g2⟩ := abs HIQ.out; have g3 := (aai _ _ _ (ok3.at_ g1).2.2).1; have g4 := ok3.le; omega
 obtain ⟨H3, hH3⟩ := nmE ((H.take s).2); have HIQ3 : Hid (atB (q : Int) H3.blks = some iq) := (show _ = _ by rw [<- hH3]; exact HIQ.out); have HIO3 : Hid (atB (xo : Int) H3.blks = some io) := (show _ = _ by rw [<- hH3]; exact HIO.out); have HE3 : Hid (H.resize (xo : Int) s = ((q, 0), ((H3.moveD (q : Int) (xo : Int)).giveO (xo : Int)).getD (H3.moveD (q : Int) (xo : Int)))) := (show _ = _ by rw [<- hH3]; exact HE.out); rw [hH3] at z3 ok3 fw3; obtain ⟨wx, hwx⟩ := nmE w3.drew; have hbx := adE hwx; have zx := z3.below hbx; have hn3 := ok3.n; have l1 := (abs HIQ3.out).1; have l2 := (abs HIO3.out).1; obtain ⟨bd, cd, rfl, _, hncd, _⟩ := aav zx.hm.od (by rw [ok3.dl]; omega); obtain ⟨dn, hdn⟩ := nmE H3.ds.length; have hdn3 := ok3.dl; rw [hdn] at hdn3 hncd; rw [hdn] at zx; have k1 := zx.hm.c2; have hodx := zx.hm.od; rw [hdn] at hodx; obtain ⟨dv, k2, k3⟩ := aaW hodx (j := io) (by omega); obtain ⟨_, k4, _⟩ := aaW hodx (j := iq) (by omega); have f1 := aas hodx iq; have hsl := zx.hm.sl; have hgd : (H3.ds.getD io aaR).1 = dv := by
  rw [List.getElem?_map] at k3; rw [List.getD_eq_getElem?_getD]
  cases h' : H3.ds[io]? with
  | none => rw [h'] at k3; cases k3
  | some y => rw [h'] at k3; injection k3
 have hslv : ∃ A n c, (H3.ds.getD io aaR).1 = Value.slice A n c := by
  rw [List.getD_eq_getElem?_getD]
  cases h' : H3.ds[io]? with
  | none => exact ⟨_, _, _, rfl⟩
  | some y => exact hsl y (List.mem_of_getElem? h')
 have hmv : H3.moveD (q : Int) (xo : Int) = H3.copyD iq io := by unfold Hp.moveD; rw [HIQ3.out, HIO3.out]
 have z4 := zx.set (a := ⟨bd, iq, none⟩) (u := (H3.ds.getD io aaR).1) (zx.hm.fd bd rfl) (zx.hm.dcell (by rw [hdn]) (H3.ds.getD io aaR) hslv); have z4 : Hz F w p F3 (wx.setCell ⟨bd, iq, none⟩ (H3.ds.getD io aaR).1) (H3.copyD iq io) Vb3 (.slice (some ⟨bd, 0, none⟩) dn cd) gl3 cs3 := z4; rw [hgd, <- hmv] at z4; obtain ⟨w4, hw4⟩ := nmE (wx.setCell ⟨bd, iq, none⟩ dv); rw [hw4] at z4; have bl4 : (H3.moveD (q : Int) (xo : Int)).blks = H3.blks := by rw [hmv]; rfl
 have ok4 : (H3.moveD (q : Int) (xo : Int)).Ok := ⟨by rw [bl4]; exact ok3.tl, by rw [bl4]; exact ok3.le, by rw [hmv]; show (H3.ds.set _ _).length = _; rw [List.length_set]; exact ok3.dl⟩; have fw4 : (H3.moveD (q : Int) (xo : Int)).Few (N + 1) := by rw [hmv]; exact fw3
 have HGV := hE0 (aed z4.hm ok4 (N + 1) fw4 (by omega) (xo : Int) ho); have HA1 := hE0 (acc zx.hm (by omega) (q : Int) (by omega) _ HIQ3.out); have HA2 := hE0 (acc zx.hm (by omega) (xo : Int) ho _ HIO3.out); have hpx := zx.hm.lt; have hbdx : bd < wx.heap.size := own_lt hodx rfl; have Z4 := hE0 z4; have Hw11 := hE0 hwx; have HW4 := hE0 hw4; obtain ⟨Av, nv, cv, hdv⟩ := hslv; rw [hgd] at hdv; subst hdv; have hi1 : (iq : Int) < (dn : Int) := by omega
 have hi2' : (io : Int) < (dn : Int) := by omega
 clear z3 zx z4 ok3 fw3 ok4 fw4 hH3 hwx hbx hodx hsl hgd hmv hw4 bl4 hn3 l1 l2 hdn3 ht ZD HIQ HIO HIQ3 HIO3 hdn k3; go_wp2_with fail
 refine aaf wx.heap.size [([0, 1, 2, 3, 4, 5, 7, 8, 9, 10, 11, 12], 6), ([], 13)] [14, 15, 16] [17] (by kernel_rfl) (by kernel_rfl) (by kernel_rfl) (fun _ _ _ _ _ h => h) ?_; rw [Hw11.out]; have t1 := tfE k1 hpx; refine aaj (l := ?segCY3S) ?hsegCY3S ?_
 case hsegCY3S => simp only [pick, lE1, lE2, lE3]; rfl
 repeat (go_big_quiet_step (fail))
 refine wpQuiet_nil ?_; clear t1; refine aam (vs := #[.pointer (some ⟨p, 0, none⟩), .int .i64 (q : Int)]) Tryz.call65 rfl rfl rfl (R := fun r w' => r = .int .i64 (iq : Int) /\ w' = wx) (HA1.out.mono ?_) wx.heap.size (Nat.le_refl _) ?_
 · rintro e w' ⟨rfl, rfl⟩; exact ⟨_, rfl, Below.refl _ _, rfl, rfl⟩
 rintro r w11 _ ⟨rfl, rfl⟩; refine aaj (l := []) rfl ?_; refine wpQuiet_nil ?_; refine aam (vs := #[.pointer (some ⟨p, 0, none⟩), .int .i64 (xo : Int)]) Tryz.call65 rfl rfl rfl (R := fun r w' => r = .int .i64 (io : Int) /\ w' = w11) (HA2.out.mono ?_) w11.heap.size (Nat.le_refl _) ?_
 · rintro e w' ⟨rfl, rfl⟩; exact ⟨_, rfl, Below.refl _ _, rfl, rfl⟩
 rintro r w12 _ ⟨rfl, rfl⟩; refine aap (l := ?laEY3S) (t := ?tlEY3S) ?hlaEY3S ?htlEY3S ?_
 case hlaEY3S => simp only [pick, lE1, lE2, lE3]; rfl
 case htlEY3S => simp only [pick, lE1, lE2, lE3]; rfl
 simp only [Act.put, lE4, lE5, lE6]; have t2 := tfE k2 hbdx; repeat (go_big_quiet_step (fail))
 refine wpQuiet_nil ?_; clear t2; go_wp2_with (first | (rw [HW4.out]) | fail)
 refine HGV.out.mono ?_; rintro e w5 ⟨rfl, ht⟩; have hto : Rez F w p (H.resize (xo : Int) s) (.returned (.tuple #[.int .i64 (q : Int), .int .i64 0])) w5 := by
  rw [HE3.out]; exact ⟨rfl, Z4.out.last ht⟩
 have HTO := hE0 hto; clear hto ht HGV Z4 k1 k2 k4 f1; go_wp2
 go_ret2
 exact HTO.out
theorem ang (h : Hm F w p H Vb Vd gl cs) (hok : H.Ok) (N : Nat) (hf : H.Few N) (hN : N <= 40000) (s : Nat) (hs : aaG (s : Int) = true) (hc16 : H.cap <= 16384) (hL : H.Listed) (o : Int) (ho : -9223372036854775808 <= o /\ o <= 9223372036854775807)
 (hmv : ∀ i q, aaK H.blks o = some i -> (H.take s).1 = some q -> ∃ iq io, atB (q : Int) (H.take s).2.blks = some iq /\ atB o (H.take s).2.blks = some io) :
 Calls Tryz.prog 70 #[.pointer (some ⟨p, 0, none⟩), .int .i64 o, .int .i64 (s : Int)] w fun e w' => Rez F w p (H.resize o s) e w' := by
 have hcap : H.cap <= 100000 := by omega
 cases hu : aaK H.blks o with
 | none => exact apT h hok N hf hN s hs o ho hu
 | some i =>
  obtain ⟨hi, _, _⟩ := abe hu; by_cases hle : s <= (aag H.blks i).size
  · exact apU h hok N hf hN s hs o ho i hu hle
  · have hlt : (aag H.blks i).size < s := by omega
    rcases Nat.lt_or_ge (i + 1) H.blks.length with hE | hE
    · cases hU : (aag H.blks (i + 1)).used with
      | true =>
       have hnx : aaH H.blks i = false := by unfold aaH; rw [hU, Bool.not_true, Bool.and_false]
       have hb := acT hnx; have h2 := hok.two hE; have h3 := (aai _ _ _ (hok.at_ hE).2.2).1; have h4 := (aac _).1 (hok.sz hE); have he : (aag H.blks i).off + aa1 H.blks i ≠ lenB H.blks := by omega
       cases htk : (H.take s).1 with
       | none => exact am9 h hok N hf hN s hs hcap hL o ho i hu hlt hE hU (by omega) he htk
       | some q =>
        obtain ⟨iq, io, hiq, hio⟩ := hmv i q hu htk; exact ana h hok N hf hN s hs hL o ho i hu hlt hE hU (by omega) he hc16 q htk iq io hiq hio
      | false =>
       by_cases hb : s <= aa1 H.blks i
       · exact aoY h hok N hf hN s hs hcap o ho i hu hlt hE hU hb
       · by_cases he : (aag H.blks i).off + aa1 H.blks i = lenB H.blks
         · by_cases hfit : lenB H.blks + s - aa1 H.blks i <= H.cap
           · exact ao0 h hok N hf hN s hs hcap o ho i hu hlt hE hU (by omega) he hfit
           · cases htk : (H.take s).1 with
             | none => exact ane h hok N hf hN s hs hcap hL o ho i hu hlt hE hU (by omega) he hfit htk
             | some q =>
              obtain ⟨iq, io, hiq, hio⟩ := hmv i q hu htk; exact anf h hok N hf hN s hs hL o ho i hu hlt hE hU (by omega) he hfit hc16 q htk iq io hiq hio
         · cases htk : (H.take s).1 with
           | none => exact anb h hok N hf hN s hs hcap hL o ho i hu hlt hE hU (by omega) he htk
           | some q =>
            obtain ⟨iq, io, hiq, hio⟩ := hmv i q hu htk; exact anc h hok N hf hN s hs hL o ho i hu hlt hE hU (by omega) he hc16 q htk iq io hiq hio
    · have hnx : aaH H.blks i = false := by unfold aaH; rw [decide_eq_false (by omega)]; rfl
      have hb := acT hnx; have h2 := ajr hok (k := i) (by omega); have he : (aag H.blks i).off + aa1 H.blks i = lenB H.blks := by omega
      by_cases hfit : lenB H.blks + s - aa1 H.blks i <= H.cap
      · exact aoZ h hok N hf hN s hs hcap o ho i hu hlt hE (by omega) he hfit
      · cases htk : (H.take s).1 with
        | none => exact am7 h hok N hf hN s hs hcap hL o ho i hu hlt hE (by omega) he hfit htk
        | some q =>
         obtain ⟨iq, io, hiq, hio⟩ := hmv i q hu htk; exact am8 h hok N hf hN s hs hL o ho i hu hlt hE (by omega) he hfit hc16 q htk iq io hiq hio
end
end Go.Proofs.YtnicenfdlfffpaaGreatDoor
