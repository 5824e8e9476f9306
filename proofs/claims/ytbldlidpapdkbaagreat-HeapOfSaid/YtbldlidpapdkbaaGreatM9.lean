/- Texts of mine, joined: RezM, Pair, Spec12, Tak1, Tak2, Tak3, Tak4. -/
import Derived.Test.YtbldlidpapdkbaaGreatM8

/- A block that gets more bytes in its place, plain: the free block behind it is taken out, the arena grows, its tags are laid anew. No program in sight. -/
namespace Go.Proofs.YtbldlidpapdkbaaGreat

theorem nadj_true {l : List Bk} (h : nadj false l = true) : nadj true l = true := by
  cases l with
  | nil => rfl
  | cons y r =>
    rw [nadj_cons, Bool.false_or, Bool.and_eq_true] at h
    rw [nadj_cons, Bool.true_or, Bool.true_and]
    exact h.2
section
variable {bs : List UInt8} {H : Hp}
/-- The blocks and the lists of a block that has swallowed the free one behind it. -/
theorem widen_at {A B1 : List Bk} {n : Option Bk} {xo xs : Nat} (hb : H.blks = A ++ ⟨xo, xs, true⟩ :: (n.toList ++ B1)) (hf : ∀ y, n = some y → y.used = false) (hu : n = none → ∀ y r, B1 = y :: r → y.used = true) :
    (H.widen A.length).blks = A ++ ⟨xo, xs + (n.map Bk.size).getD 0, true⟩ :: B1 ∧ (H.widen A.length).lists = tkO H.lists n ∧ bothN H.blks A.length = xs + (n.map Bk.size).getD 0 ∧ nextF H.blks A.length = n.isSome := by
  have hbk : bkAt H.blks A.length = ⟨xo, xs, true⟩ := by rw [hb, mid_at]
  have hi : A.length < H.blks.length := by rw [hb]; simp
  cases n with
  | none =>
    have hn : nextF H.blks A.length = false := by
      rw [hb, nextF_mid]
      cases B1 with
      | nil => rfl
      | cons y r =>
        show (!y.used) = false
        rw [hu rfl y r rfl]; rfl
    have e := both_no hn
    rw [hbk] at e
    refine ⟨?_, ?_, e, by rw [hn]; rfl⟩
    · rw [(widen_same hn hi).1, hb]; rfl
    · unfold Hp.widen
      rw [swallow_no hn]; rfl
  | some m =>
    have hm := hf m rfl
    have hn : nextF H.blks A.length = true := by
      rw [hb, nextF_mid]
      show (!m.used) = true
      rw [hm]; rfl
    have e := both_yes hn
    have hbk1 : bkAt H.blks (A.length + 1) = m := by rw [hb]; exact mid_at1 A _ m B1
    rw [hbk, hbk1] at e
    refine ⟨?_, ?_, e, by rw [hn]; rfl⟩
    · rw [(widen_blks hn).1]
      exact mid_join (H := H.out (A.length + 1)) (y := ⟨xo, xs, true⟩) (z := m) hb
    · have hb' : H.blks = (A ++ [⟨xo, xs, true⟩]) ++ m :: B1 := by rw [hb]; simp
      have := mid_out hb'
      rw [List.length_append, List.length_singleton] at this
      unfold Hp.widen
      rw [swallow_yes hn]
      exact this

/-- More bytes in its place. -/
theorem Rt.wide (h : Rt bs H) (hc : H.cap ≤ 16384) {A B1 : List Bk} {n : Option Bk} {xo xs n0 t : Nat} (hb : H.blks = A ++ ⟨xo, xs, true⟩ :: (n.toList ++ B1)) (hf : ∀ y, n = some y → y.used = false)
    (ht : t = xs + (n.map Bk.size).getD 0 + n0) (hend : n0 = 0 ∨ B1 = []) (hs : isSz (t : Int) = true) (hcap : bs.length + n0 ≤ H.cap) :
    ∃ b1, outB (bs ++ List.replicate n0 0) n = some b1 ∧ setB b1 (xo : Int) (t : Int) true = some (setT b1 ⟨xo, t, true⟩) ∧ b1.length = bs.length + n0 ∧ (setT b1 ⟨xo, t, true⟩).length = bs.length + n0 ∧
      (∀ H' : Hp, H'.blks = A ++ ⟨xo, t, true⟩ :: B1 → H'.lists = tkO H.lists n → H'.cap = H.cap → Rt (setT b1 ⟨xo, t, true⟩) H') ∧
      (∀ z ∈ H.blks, z.used = true → z.off ≠ xo → ∀ i, Pay z i → (setT b1 ⟨xo, t, true⟩)[i]? = bs[i]?) ∧ ∀ i, Pay ⟨xo, xs, true⟩ i → (setT b1 ⟨xo, t, true⟩)[i]? = bs[i]? := by
  have hM := h.md hc
  have hF := h.complete
  have hadj : nadj true H.blks = true := by rw [← noAdj_nadj]; exact h.nfree.2.1
  have htl := hM.tl
  rw [hb] at htl
  obtain ⟨t1, t2, t3, t4, t5, t6, tA, tB⟩ := tile_mid htl
  dsimp only at t1 t2 t3 t4 t5 t6 tA tB
  rw [tile_app] at t3
  obtain ⟨t7, t8⟩ := t3
  have hl0 := hM.ls.len
  have ss := (isSz_iff _).1 hs
  have sx := (isSz_iff _).1 t2
  have hnz : (n.map Bk.size).getD 0 = sumB n.toList := by cases n <;> simp [sumB]
  have hB1 := (tile_mem _ _ _ t8).2
  have hle8 := (tile_mem _ _ _ t8).1
  have hlm : (bs ++ List.replicate n0 (0 : UInt8)).length = bs.length + n0 := by rw [List.length_append, List.length_replicate]
  have hnm : ∀ y, n = some y → y ∈ H.blks ∧ xo + xs ≤ y.off ∧ y.off + y.size ≤ xo + xs + sumB n.toList := fun y hy => by
    rw [hy] at t7
    obtain ⟨a, _, _⟩ := t7
    refine ⟨by rw [hb, hy]; simp, by omega, ?_⟩
    rw [hy]; simp [sumB]; omega
  obtain ⟨b1, e1, L1, l1, k1, w1⟩ := (hM.ls.more n0 (by omega)).takeO n (fun y hy => by
    have hyP := (hnm y hy).1
    obtain ⟨c1, c2⟩ := cls_of (hM.ls.st.facts hyP).2.2.2.2.2
    exact ⟨hyP, hF _ c2 _ (mem_freeL hyP (hf y hy) c1)⟩)
  obtain ⟨y1, hy1⟩ : ∃ y1 : Bk, y1 = ⟨xo, t, true⟩ := ⟨_, rfl⟩
  have o1 : y1.off = xo := by rw [hy1]
  have z1 : y1.size = t := by rw [hy1]
  have u1 : y1.used = true := by rw [hy1]
  have hs1 : isSz (y1.size : Int) = true := by rw [z1]; exact hs
  have hendl : xo + xs + sumB n.toList ≤ bs.length ∧ (n0 = 0 ∨ xo + xs + sumB n.toList = bs.length) := by
    refine ⟨hle8, hend.imp id fun e => ?_⟩
    rw [e] at t8
    exact t8
  have hle : y1.off + y1.size ≤ b1.length := by omega
  have s1 : setB b1 (y1.off : Int) (y1.size : Int) y1.used = some (setT b1 y1) := setB_of b1 y1 (by omega) (by omega) hle hs1
  have l2 : (setT b1 y1).length = b1.length := setT_length hs1 hle
  rw [o1, z1, u1] at s1
  rw [← hy1]
  have inB : ∀ y ∈ B1, y1.off + y1.size ≤ y.off := fun y hy => by
    rcases hend with e | e
    · have := (hB1 y hy).1; omega
    · rw [e] at hy; cases hy
  have hdA : ∀ y ∈ A ++ y1 :: B1, y = y1 ∨ (y ∈ H.blks ∧ (y.off + y.size ≤ y1.off ∨ y1.off + y1.size ≤ y.off)) := fun y hy => by
    rcases List.mem_append.1 hy with hy | hy
    · exact .inr ⟨by rw [hb]; simp [hy], .inl (by have := tA y hy; omega)⟩
    · rcases List.mem_cons.1 hy with rfl | hy
      · exact .inl rfl
      · exact .inr ⟨by rw [hb]; simp [hy], .inr (inB y hy)⟩
  have L2 : Lists (setT b1 y1) (A ++ y1 :: B1) (tkO H.lists n) := by
    refine L1.set (by omega) (by omega) hle hs1 hdA fun c hc q hq => ?_
    rw [tkO_mem] at hq
    obtain ⟨y, hy, ey, hyu, hyc⟩ := hM.ls.mem c hc q hq.1
    have hy' := hy
    rw [hb] at hy
    rcases List.mem_append.1 hy with hy | hy
    · exact ⟨y, by simp [hy], hy', ey, .inl (by have := tA y hy; omega)⟩
    · rcases List.mem_cons.1 hy with rfl | hy
      · cases hyu
      · rcases List.mem_append.1 hy with hy | hy
        · obtain ⟨c1, _⟩ := cls_of (hM.ls.st.facts hy').2.2.2.2.2
          exact absurd ey.symm (hq.2 y (by simpa using hy) (by omega))
        · exact ⟨y, by simp [hy], hy', ey, .inr (inB y hy)⟩
  refine ⟨b1, e1, s1, by omega, by omega, fun H' g1 g2 g3 => ?_, fun z hz hzu hzo i hi => ?_, fun i hi => ?_⟩
  · have hi := hM.hi
    have hi2 : wordN (bs ++ List.replicate n0 (0 : UInt8)) 0 = wordN bs 0 := more_word _ _ _ (by omega)
    have M : Md (setT b1 y1) H' := by
      refine ⟨?_, by rw [g1, g2]; exact L2, ?_, by rw [g3]; omega⟩
      · rw [g1, tile_app]
        have q0 : xo = 184 + sumB A := tile_sum _ _ _ t1
        rw [← q0]
        refine ⟨t1, o1, hs1, ?_⟩
        rw [l2, l1, hlm, z1]
        rcases hend with e | e
        · rw [show xo + t = xo + xs + sumB n.toList by omega, show bs.length + n0 = bs.length by omega]
          exact t8
        · rw [e]
          show xo + t = bs.length + n0
          have := hendl.2
          rw [e] at t8
          have t8 : xo + xs + sumB n.toList = bs.length := t8
          omega
      · rw [setT_same hs1 hle _ (by omega)]
        omega
    refine M.rt (fun c hc q hq => ?_) ?_
    · rw [g1] at hq
      rw [g2, tkO_mem]
      obtain ⟨y, hy, ey, hyu, hyc⟩ := freeL_mem hq
      rcases hdA y hy with rfl | ⟨hyP, hd⟩
      · rw [u1] at hyu; cases hyu
      · have := hM.facts y hyP
        refine ⟨by rw [← ey]; exact hF c hc _ (mem_freeL hyP hyu hyc), fun z hz _ => ?_⟩
        have := hnm z hz
        have := hM.facts z (hnm z hz).1
        omega
    · rw [g1, noAdj_nadj, nadj_app, nadj_cons, u1]
      rw [hb, nadj_app, nadj_cons] at hadj
      simp only [Bool.and_eq_true, Bool.or_true] at hadj ⊢
      refine ⟨hadj.1, trivial, ?_⟩
      have h2 := hadj.2.2
      cases n with
      | none => exact h2
      | some m =>
        have hm := hf m rfl
        have h2 : nadj true (m :: B1) = true := h2
        rw [nadj_cons, hm, Bool.and_eq_true] at h2
        exact nadj_true h2.2
  · have hd : z.off + z.size ≤ y1.off ∨ y1.off + y1.size ≤ z.off := by
      rw [hb] at hz
      rcases List.mem_append.1 hz with hz | hz
      · exact .inl (by have := tA z hz; omega)
      · rcases List.mem_cons.1 hz with rfl | hz
        · exact absurd rfl hzo
        · rcases List.mem_append.1 hz with hz | hz
          · have := hf z (by simpa using hz)
            rw [hzu] at this; cases this
          · exact .inr (inB z hz)
    have hzf := hM.ls.st.facts hz
    have k := k1.pay hM.facts hM.ls.st.apart hz hzu hi
    obtain ⟨i1, i2⟩ := hi
    rw [setT_get hs1 hle i (by omega), k, more_get _ _ _ (by omega)]
  · have hxP : (⟨xo, xs, true⟩ : Bk) ∈ H.blks := by rw [hb]; simp
    have k := k1.pay hM.facts hM.ls.st.apart hxP rfl hi
    obtain ⟨i1, i2⟩ := hi
    dsimp only at i1 i2
    have hzf := hM.ls.st.facts hxP
    dsimp only at hzf
    rw [setT_get hs1 hle i (by omega), k, more_get _ _ _ (by omega)]
end
end Go.Proofs.YtbldlidpapdkbaaGreat

/- A region that draws its order, with two calls, one behind the other, and two new blocks made at any time among them; then a tail that comes in one order (genpair.py). -/
namespace Go.Proofs.YtbldlidpapdkbaaGreat
open Go.RowKit

/-- What may come up when, as a tree. -/
inductive QT where
  | fin : QT
  | one : Nat → QT → QT
  | two : Nat → QT → Nat → QT → QT
  | three : Nat → QT → Nat → QT → Nat → QT → QT

section
variable {P : Program} {ops : Array Oper} {Q : Exit → Act → World → Prop} {T : List Nat}
def qLen (T : List Nat) : QT → Nat
  | .fin => T.length
  | .one _ q => 1 + qLen T q
  | .two _ q _ _ => 1 + qLen T q
  | .three _ q _ _ _ _ => 1 + qLen T q
def planQ (ops : Array Oper) (T : List Nat) : Array Bool → QT → Bool
  | l, .fin => seqT ops l T
  | l, .one i q => Region.ready .any ops l == [i] && (!mv ops i && planQ ops T (l.setIfInBounds i true) q)
  | l, .two i q j r => Region.ready .any ops l == [i, j] && (!mv ops i && (!mv ops j && (qLen T q == qLen T r && (planQ ops T (l.setIfInBounds i true) q && planQ ops T (l.setIfInBounds j true) r))))
  | l, .three i q j r k s => Region.ready .any ops l == [i, j, k] && (!mv ops i && (!mv ops j && (!mv ops k && (qLen T q == qLen T r && (qLen T q == qLen T s && (planQ ops T (l.setIfInBounds i true) q && (planQ ops T (l.setIfInBounds j true) r && planQ ops T (l.setIfInBounds k true) s)))))))
def wpQ (P : Program) (ops : Array Oper) (Q : Exit → Act → World → Prop) (T : List Nat) (B : Nat) : QT → Act → World → Prop
  | .fin, a, w => wpList P ops Q (pick ops T) a w
  | .one i q, a, w => wpOp P ops Q i (fun a' w' => Below B w w' ∧ wpQ P ops Q T B q a' w') a w
  | .two i q j r, a, w => wpOp P ops Q i (fun a' w' => Below B w w' ∧ wpQ P ops Q T B q a' w') a w ∧ wpOp P ops Q j (fun a' w' => Below B w w' ∧ wpQ P ops Q T B r a' w') a w
  | .three i q j r k s, a, w => wpOp P ops Q i (fun a' w' => Below B w w' ∧ wpQ P ops Q T B q a' w') a w ∧ wpOp P ops Q j (fun a' w' => Below B w w' ∧ wpQ P ops Q T B r a' w') a w ∧ wpOp P ops Q k (fun a' w' => Below B w w' ∧ wpQ P ops Q T B s a' w') a w

theorem q_step {B n i : Nat} {q : QT} {l : Array Bool} {a : Act} {w : World} (hm : mv ops i = false)
    (ih : ∀ a w, wpQ P ops Q T B q a w → wpAnyT P ops Q (Below B w) T n (l.setIfInBounds i true) a w)
    (h : wpOp P ops Q i (fun a' w' => Below B w w' ∧ wpQ P ops Q T B q a' w') a w) :
    wpOp P ops Q i (fun a' w' => (i ∉ T → mv ops i = false → Below B w w') ∧ (mv ops i = true → w' = w) ∧ wpAnyT P ops Q (Below B w) T n (l.setIfInBounds i true) a' w') a w :=
  wpOp_mono (fun a' w' hh => by
    refine ⟨fun _ _ => hh.1, fun e => ?_, wpAnyT_less (fun w3 h4 => hh.1.trans h4) _ _ _ _ (ih a' w' hh.2)⟩
    rw [hm] at e
    cases e) h

theorem planQ_any (B : Nat) : ∀ (q : QT) (l : Array Bool) (a : Act) (w : World), planQ ops T l q = true → wpQ P ops Q T B q a w → wpAnyT P ops Q (Below B w) T (qLen T q) l a w
  | .fin, l, a, w, hc, h => seqT_any (fun _ h => h) T l a w (fun _ h => h) hc h
  | .one i q, l, a, w, hc, h => by
    simp only [planQ, Bool.and_eq_true, beq_iff_eq, Bool.not_eq_true'] at hc
    obtain ⟨h1, m1, c1⟩ := hc
    have k := q_step m1 (fun a w => planQ_any B q _ a w c1) h
    show wpAnyT P ops Q (Below B w) T (1 + qLen T q) l a w
    rw [Nat.add_comm]
    refine ⟨fun h0 => (by rw [h1] at h0; cases h0), fun j hj => ?_⟩
    rw [h1] at hj
    obtain rfl : j = i := by simpa using hj
    exact k
  | .two i q j r, l, a, w, hc, h => by
    simp only [planQ, Bool.and_eq_true, beq_iff_eq, Bool.not_eq_true'] at hc
    obtain ⟨h1, m1, m2, e2, c1, c2⟩ := hc
    have k1 := q_step m1 (fun a w => planQ_any B q _ a w c1) h.1
    have k2 := q_step m2 (fun a w => planQ_any B r _ a w c2) h.2
    rw [← e2] at k2
    show wpAnyT P ops Q (Below B w) T (1 + qLen T q) l a w
    rw [Nat.add_comm]
    refine ⟨fun h0 => (by rw [h1] at h0; cases h0), fun j' hj => ?_⟩
    rw [h1] at hj
    rcases List.mem_cons.1 hj with rfl | hj
    · exact k1
    · obtain rfl : j' = j := by simpa using hj
      exact k2
  | .three i q j r k s, l, a, w, hc, h => by
    simp only [planQ, Bool.and_eq_true, beq_iff_eq, Bool.not_eq_true'] at hc
    obtain ⟨h1, m1, m2, m3, e2, e3, c1, c2, c3⟩ := hc
    have k1 := q_step m1 (fun a w => planQ_any B q _ a w c1) h.1
    have k2 := q_step m2 (fun a w => planQ_any B r _ a w c2) h.2.1
    have k3 := q_step m3 (fun a w => planQ_any B s _ a w c3) h.2.2
    rw [← e2] at k2
    rw [← e3] at k3
    show wpAnyT P ops Q (Below B w) T (1 + qLen T q) l a w
    rw [Nat.add_comm]
    refine ⟨fun h0 => (by rw [h1] at h0; cases h0), fun j' hj => ?_⟩
    rw [h1] at hj
    rcases List.mem_cons.1 hj with rfl | hj
    · exact k1
    · rcases List.mem_cons.1 hj with rfl | hj
      · exact k2
      · obtain rfl : j' = k := by simpa using hj
        exact k3

/-- The region: readers, then the tree. -/
theorem wp_region_q {id : Nat} {a : Act} {w : World} (B : Nat) (rs : List Nat) (q : QT) (T : List Nat) (hm : P.follows .mixedOrders = true) (hsel : Region.noSelect ops = true)
    (hc : (segT ops T (Array.replicate ops.size false) rs && (planQ ops T (mark (Array.replicate ops.size false) rs) q && qLen T q + rs.length == ops.size)) = true)
    (hQ : ∀ c a t v w, Q (.panic c) (Act.put a (some t) v) w → Q (.panic c) a w)
    (h : wpQuiet P ops (AfterB B w.drew) (fun a' => wpQ P ops Q T B q a' w.drew) (pick ops rs) a) : (Code.region id ops true).wp P Q a w := by
  simp only [Bool.and_eq_true, beq_iff_eq] at hc
  obtain ⟨h1, h2, h3⟩ := hc
  have hs := segT_any (T := T) hsel hQ B w.drew _ (qLen T q) rs _ a h1 h (fun a' ha => planQ_any B q _ a' _ h2 ha)
  rw [h3] at hs
  exact wp_region_any hm (wpAnyT_any _ _ _ _ hs)
theorem q_pick {B : Nat} {rs : List Nat} {q : QT} {a : Act} {w : World} {l : List Oper} (hl : pick ops rs = l) (h : wpQuiet P ops (AfterB B w) (fun a' => wpQ P ops Q T B q a' w) l a) : wpQuiet P ops (AfterB B w) (fun a' => wpQ P ops Q T B q a' w) (pick ops rs) a := by
  subst hl; exact h
theorem q_fin {B : Nat} {a : Act} {w : World} {t : List Oper} (ht : pick ops T = t) (h : wpList P ops Q t a w) : wpQ P ops Q T B .fin a w := by
  subst ht; exact h
end

/-- What the calls read stays. -/
def Ag (S : List Nat) (a0 a : Act) : Prop := ∀ s ∈ S, a.tmps.getD s undef = a0.tmps.getD s undef
theorem Ag.refl (S : List Nat) (a : Act) : Ag S a a := fun _ _ => rfl
theorem Ag.put {S : List Nat} {a0 a : Act} (h : Ag S a0 a) {d : Nat} (hd : d ∉ S) (v : Value) : Ag S a0 (a.put (some d) v) := fun s hs => by
  have hne : d ≠ s := fun e => hd (e ▸ hs)
  rw [← h s hs]
  simp [Act.put, Array.getElem?_setIfInBounds_ne hne]
theorem ne_put {x y : Nat} (h : x ≠ y) : ∀ d : Tmp, (some x : Option Tmp) = some d → (some y : Option Tmp) ≠ some d := fun _ e k => h (Option.some.inj (e.trans k.symm))
def ptrV (p : Nat) : Value := .pointer (some ⟨p, 0, none⟩)

section
variable {P : Program} {ops : Array Oper} {Q : Exit → Act → World → Prop}
/-- A call: its value, and nothing that was there has changed. -/
def Stp (P : Program) (ops : Array Oper) (Q : Exit → Act → World → Prop) (B : Nat) (w0 : World) (S : List Nat) (a0 : Act) (i d : Nat) (v : Value) : Prop :=
  ∀ (a : Act) (w : World) (K : Act → World → Prop), Ag S a0 a → Below B w0 w → (∀ w', Below w.heap.size w w' → K (a.put (some d) v) w') → wpOp P ops Q i K a w
/-- A new block. -/
def Sta (P : Program) (ops : Array Oper) (Q : Exit → Act → World → Prop) (j e : Nat) (cs : Array Value) (ty : TypeId) : Prop :=
  ∀ (a : Act) (w : World) (K : Act → World → Prop), K (a.put (some e) (ptrV w.heap.size)) (w.alloc (.cells cs ty)) → wpOp P ops Q j K a w
theorem stp_call {B i d : Nat} {w0 : World} {S : List Nat} {a0 : Act} {v : Value} {f : FuncId} {args : Array Operand} {tys : Array TypeId} {ty : TypeId} {pos : String} {after : Array Edge}
    (hf : ∀ (xs : Array Value) (w : World), (callFunc f xs).run P w = .ok (.enter f xs) w)
    (ho : ops[i]? = some { dst := some d, op := .call { callee := .value (.func f), args := args, argTypes := tys }, type := ty, pos := pos, after := after, guard := none })
    {vs : Array Value} (hvl : ∀ a, Ag S a0 a → args.toList.map a.eval = vs.toList)
    (hc : ∀ w, Below B w0 w → Calls P f vs w (fun e w' => e = .returned v ∧ Below w.heap.size w w')) : Stp P ops Q B w0 S a0 i d v := by
  intro a w K ha hb hk
  have hw : Region.wanted { dst := some d, op := .call { callee := .value (.func f), args := args, argTypes := tys }, type := ty, pos := pos, after := after, guard := none } (yielded ops a.tmps) = true := rfl
  unfold wpOp
  simp only [ho]
  rw [if_pos hw]
  refine .inl ?_
  have hvs : args.map a.eval = vs := Array.ext' (by simpa using hvl a ha)
  subst hvs
  unfold Oper.wp
  rw [execOp_call_go, hf]
  simp only [Oper.upon, Array.empty_append, Array.append_empty]
  refine (hc w hb).mono fun e w' hh => ?_
  obtain ⟨rfl, h1⟩ := hh
  exact hk w' h1
theorem stp_alloc {j e : Nat} {o : Oper} {cs : Array Value} {ty : TypeId} (ho : ops[j]? = some o) (hd : o.dst = some e) (hw : ∀ xs, Region.wanted o xs = true)
    (hr : ∀ (ρ : Operand → Value) (w : World), (execOp ρ o).run P w = .ok (.value (.pointer (some ⟨w.heap.size, 0, none⟩))) (w.alloc (.cells cs ty))) : Sta P ops Q j e cs ty := by
  intro a w K hk
  unfold wpOp
  simp only [ho]
  rw [if_pos (hw _)]
  refine .inl ?_
  unfold Oper.wp
  rw [hr]
  show K (a.put o.dst _) _
  rw [hd]
  exact hk
end
def pq211 (_ _ _ _ : Nat) : QT := .fin
def pq111 (i1 i2 j1 j2 : Nat) : QT := .one i2 (pq211 i1 i2 j1 j2)
def pq201 (i1 i2 j1 j2 : Nat) : QT := .one j1 (pq211 i1 i2 j1 j2)
def pq210 (i1 i2 j1 j2 : Nat) : QT := .one j2 (pq211 i1 i2 j1 j2)
def pq011 (i1 i2 j1 j2 : Nat) : QT := .one i1 (pq111 i1 i2 j1 j2)
def pq101 (i1 i2 j1 j2 : Nat) : QT := .two i2 (pq201 i1 i2 j1 j2) j1 (pq111 i1 i2 j1 j2)
def pq110 (i1 i2 j1 j2 : Nat) : QT := .two i2 (pq210 i1 i2 j1 j2) j2 (pq111 i1 i2 j1 j2)
def pq200 (i1 i2 j1 j2 : Nat) : QT := .two j1 (pq210 i1 i2 j1 j2) j2 (pq201 i1 i2 j1 j2)
def pq001 (i1 i2 j1 j2 : Nat) : QT := .two i1 (pq101 i1 i2 j1 j2) j1 (pq011 i1 i2 j1 j2)
def pq010 (i1 i2 j1 j2 : Nat) : QT := .two i1 (pq110 i1 i2 j1 j2) j2 (pq011 i1 i2 j1 j2)
def pq100 (i1 i2 j1 j2 : Nat) : QT := .three i2 (pq200 i1 i2 j1 j2) j1 (pq110 i1 i2 j1 j2) j2 (pq101 i1 i2 j1 j2)
def pq000 (i1 i2 j1 j2 : Nat) : QT := .three i1 (pq100 i1 i2 j1 j2) j1 (pq010 i1 i2 j1 j2) j2 (pq001 i1 i2 j1 j2)
/-- Two calls, two new blocks. -/
def pairQ (i1 i2 j1 j2 : Nat) : QT := pq000 i1 i2 j1 j2

section
variable {P : Program} {ops : Array Oper} {Q : Exit → Act → World → Prop} {T : List Nat} {B i1 i2 j1 j2 d1 d2 e1 e2 : Nat} {w0 : World} {S : List Nat} {a0 : Act} {v1 v2 : Value} {cs : Array Value} {ty : TypeId}
/-- All that is wanted of such a region. -/
structure PairOk (P : Program) (ops : Array Oper) (Q : Exit → Act → World → Prop) (T : List Nat) (B i1 i2 j1 j2 d1 d2 e1 e2 : Nat) (w0 : World) (S : List Nat) (a0 : Act) (v1 v2 : Value) (cs : Array Value) (ty : TypeId) : Prop where
  s1 : Stp P ops Q B w0 S a0 i1 d1 v1
  s2 : Stp P ops Q B w0 S a0 i2 d2 v2
  t1 : Sta P ops Q j1 e1 cs ty
  t2 : Sta P ops Q j2 e2 cs ty
  n1 : d1 ∉ S
  n2 : d2 ∉ S
  n3 : e1 ∉ S
  n4 : e2 ∉ S
  e12 : e1 ≠ d1 ∧ e1 ≠ d2 ∧ e2 ≠ d1 ∧ e2 ≠ d2 ∧ e2 ≠ e1
  hB : B = w0.heap.size
  fin : ∀ (p1 p2 : Nat) (w : World), B ≤ p1 → B ≤ p2 → p1 ≠ p2 → w.heap[p1]? = some (.cells cs ty (0, 0)) → w.heap[p2]? = some (.cells cs ty (0, 0)) → Below B w0 w →
    wpQ P ops Q T B .fin ((((a0.put (some d1) v1).put (some d2) v2).put (some e1) (ptrV p1)).put (some e2) (ptrV p2)) w
theorem pair211 (h : PairOk P ops Q T B i1 i2 j1 j2 d1 d2 e1 e2 w0 S a0 v1 v2 cs ty) : ∀ (p1 p2 : Nat) (w : World), Below B w0 w → B ≤ p1 → w.heap[p1]? = some (.cells cs ty (0, 0)) → B ≤ p2 → w.heap[p2]? = some (.cells cs ty (0, 0)) → p1 ≠ p2 → wpQ P ops Q T B (pq211 i1 i2 j1 j2) ((((a0.put (some d1) v1).put (some d2) v2).put (some e1) (ptrV p1)).put (some e2) (ptrV p2)) w := by
  intro p1 p2 w hb b1 x1 b2 x2 ne
  exact h.fin p1 p2 w b1 b2 ne x1 x2 hb
theorem pair111 (h : PairOk P ops Q T B i1 i2 j1 j2 d1 d2 e1 e2 w0 S a0 v1 v2 cs ty) : ∀ (p1 p2 : Nat) (w : World), Below B w0 w → B ≤ p1 → w.heap[p1]? = some (.cells cs ty (0, 0)) → B ≤ p2 → w.heap[p2]? = some (.cells cs ty (0, 0)) → p1 ≠ p2 → wpQ P ops Q T B (pq111 i1 i2 j1 j2) (((a0.put (some d1) v1).put (some e1) (ptrV p1)).put (some e2) (ptrV p2)) w := by
  intro p1 p2 w hb b1 x1 b2 x2 ne
  have hs : B ≤ w.heap.size := Nat.le_trans (Nat.le_of_eq h.hB) hb.size
  refine h.s2 _ _ _ (Ag.put (Ag.put (Ag.put (Ag.refl S a0) h.n1 v1) h.n3 (ptrV p1)) h.n4 (ptrV p2)) hb (fun w' hw => ⟨hw.mono hs, ?_⟩)
  rw [Act.put_comm ((a0.put (some d1) v1).put (some e1) (ptrV p1)) (ptrV p2) v2 (ne_put h.e12.2.2.2.1), Act.put_comm (a0.put (some d1) v1) (ptrV p1) v2 (ne_put h.e12.2.1)]
  exact pair211 h p1 p2 w' (hb.trans (hw.mono hs)) b1 ((hw.block p1 (heap_lt x1)).trans x1) b2 ((hw.block p2 (heap_lt x2)).trans x2) ne
theorem pair201 (h : PairOk P ops Q T B i1 i2 j1 j2 d1 d2 e1 e2 w0 S a0 v1 v2 cs ty) : ∀ (p2 : Nat) (w : World), Below B w0 w → B ≤ p2 → w.heap[p2]? = some (.cells cs ty (0, 0)) → wpQ P ops Q T B (pq201 i1 i2 j1 j2) (((a0.put (some d1) v1).put (some d2) v2).put (some e2) (ptrV p2)) w := by
  intro p2 w hb b2 x2
  have hs : B ≤ w.heap.size := Nat.le_trans (Nat.le_of_eq h.hB) hb.size
  refine h.t1 _ _ _ ⟨(Below.refl _ _).alloc hs _, ?_⟩
  rw [Act.put_comm ((a0.put (some d1) v1).put (some d2) v2) (ptrV p2) (ptrV w.heap.size) (ne_put h.e12.2.2.2.2)]
  exact pair211 h w.heap.size p2 _ (hb.trans ((Below.refl _ _).alloc hs _)) hs (heap_alloc_new w _) b2 ((heap_alloc_old _ _ (heap_lt x2)).trans x2) (fun e => by have := heap_lt x2; omega)
theorem pair210 (h : PairOk P ops Q T B i1 i2 j1 j2 d1 d2 e1 e2 w0 S a0 v1 v2 cs ty) : ∀ (p1 : Nat) (w : World), Below B w0 w → B ≤ p1 → w.heap[p1]? = some (.cells cs ty (0, 0)) → wpQ P ops Q T B (pq210 i1 i2 j1 j2) (((a0.put (some d1) v1).put (some d2) v2).put (some e1) (ptrV p1)) w := by
  intro p1 w hb b1 x1
  have hs : B ≤ w.heap.size := Nat.le_trans (Nat.le_of_eq h.hB) hb.size
  refine h.t2 _ _ _ ⟨(Below.refl _ _).alloc hs _, ?_⟩
  exact pair211 h p1 w.heap.size _ (hb.trans ((Below.refl _ _).alloc hs _)) b1 ((heap_alloc_old _ _ (heap_lt x1)).trans x1) hs (heap_alloc_new w _) (fun e => by have := heap_lt x1; omega)
theorem pair011 (h : PairOk P ops Q T B i1 i2 j1 j2 d1 d2 e1 e2 w0 S a0 v1 v2 cs ty) : ∀ (p1 p2 : Nat) (w : World), Below B w0 w → B ≤ p1 → w.heap[p1]? = some (.cells cs ty (0, 0)) → B ≤ p2 → w.heap[p2]? = some (.cells cs ty (0, 0)) → p1 ≠ p2 → wpQ P ops Q T B (pq011 i1 i2 j1 j2) ((a0.put (some e1) (ptrV p1)).put (some e2) (ptrV p2)) w := by
  intro p1 p2 w hb b1 x1 b2 x2 ne
  have hs : B ≤ w.heap.size := Nat.le_trans (Nat.le_of_eq h.hB) hb.size
  refine h.s1 _ _ _ (Ag.put (Ag.put (Ag.refl S a0) h.n3 (ptrV p1)) h.n4 (ptrV p2)) hb (fun w' hw => ⟨hw.mono hs, ?_⟩)
  rw [Act.put_comm (a0.put (some e1) (ptrV p1)) (ptrV p2) v1 (ne_put h.e12.2.2.1), Act.put_comm a0 (ptrV p1) v1 (ne_put h.e12.1)]
  exact pair111 h p1 p2 w' (hb.trans (hw.mono hs)) b1 ((hw.block p1 (heap_lt x1)).trans x1) b2 ((hw.block p2 (heap_lt x2)).trans x2) ne
theorem pair101 (h : PairOk P ops Q T B i1 i2 j1 j2 d1 d2 e1 e2 w0 S a0 v1 v2 cs ty) : ∀ (p2 : Nat) (w : World), Below B w0 w → B ≤ p2 → w.heap[p2]? = some (.cells cs ty (0, 0)) → wpQ P ops Q T B (pq101 i1 i2 j1 j2) ((a0.put (some d1) v1).put (some e2) (ptrV p2)) w := by
  intro p2 w hb b2 x2
  have hs : B ≤ w.heap.size := Nat.le_trans (Nat.le_of_eq h.hB) hb.size
  refine ⟨?_, ?_⟩
  · refine h.s2 _ _ _ (Ag.put (Ag.put (Ag.refl S a0) h.n1 v1) h.n4 (ptrV p2)) hb (fun w' hw => ⟨hw.mono hs, ?_⟩)
    rw [Act.put_comm (a0.put (some d1) v1) (ptrV p2) v2 (ne_put h.e12.2.2.2.1)]
    exact pair201 h p2 w' (hb.trans (hw.mono hs)) b2 ((hw.block p2 (heap_lt x2)).trans x2)
  · refine h.t1 _ _ _ ⟨(Below.refl _ _).alloc hs _, ?_⟩
    rw [Act.put_comm (a0.put (some d1) v1) (ptrV p2) (ptrV w.heap.size) (ne_put h.e12.2.2.2.2)]
    exact pair111 h w.heap.size p2 _ (hb.trans ((Below.refl _ _).alloc hs _)) hs (heap_alloc_new w _) b2 ((heap_alloc_old _ _ (heap_lt x2)).trans x2) (fun e => by have := heap_lt x2; omega)
theorem pair110 (h : PairOk P ops Q T B i1 i2 j1 j2 d1 d2 e1 e2 w0 S a0 v1 v2 cs ty) : ∀ (p1 : Nat) (w : World), Below B w0 w → B ≤ p1 → w.heap[p1]? = some (.cells cs ty (0, 0)) → wpQ P ops Q T B (pq110 i1 i2 j1 j2) ((a0.put (some d1) v1).put (some e1) (ptrV p1)) w := by
  intro p1 w hb b1 x1
  have hs : B ≤ w.heap.size := Nat.le_trans (Nat.le_of_eq h.hB) hb.size
  refine ⟨?_, ?_⟩
  · refine h.s2 _ _ _ (Ag.put (Ag.put (Ag.refl S a0) h.n1 v1) h.n3 (ptrV p1)) hb (fun w' hw => ⟨hw.mono hs, ?_⟩)
    rw [Act.put_comm (a0.put (some d1) v1) (ptrV p1) v2 (ne_put h.e12.2.1)]
    exact pair210 h p1 w' (hb.trans (hw.mono hs)) b1 ((hw.block p1 (heap_lt x1)).trans x1)
  · refine h.t2 _ _ _ ⟨(Below.refl _ _).alloc hs _, ?_⟩
    exact pair111 h p1 w.heap.size _ (hb.trans ((Below.refl _ _).alloc hs _)) b1 ((heap_alloc_old _ _ (heap_lt x1)).trans x1) hs (heap_alloc_new w _) (fun e => by have := heap_lt x1; omega)
theorem pair200 (h : PairOk P ops Q T B i1 i2 j1 j2 d1 d2 e1 e2 w0 S a0 v1 v2 cs ty) : ∀ (w : World), Below B w0 w → wpQ P ops Q T B (pq200 i1 i2 j1 j2) ((a0.put (some d1) v1).put (some d2) v2) w := by
  intro  w hb
  have hs : B ≤ w.heap.size := Nat.le_trans (Nat.le_of_eq h.hB) hb.size
  refine ⟨?_, ?_⟩
  · refine h.t1 _ _ _ ⟨(Below.refl _ _).alloc hs _, ?_⟩
    exact pair210 h w.heap.size _ (hb.trans ((Below.refl _ _).alloc hs _)) hs (heap_alloc_new w _)
  · refine h.t2 _ _ _ ⟨(Below.refl _ _).alloc hs _, ?_⟩
    exact pair201 h w.heap.size _ (hb.trans ((Below.refl _ _).alloc hs _)) hs (heap_alloc_new w _)
theorem pair001 (h : PairOk P ops Q T B i1 i2 j1 j2 d1 d2 e1 e2 w0 S a0 v1 v2 cs ty) : ∀ (p2 : Nat) (w : World), Below B w0 w → B ≤ p2 → w.heap[p2]? = some (.cells cs ty (0, 0)) → wpQ P ops Q T B (pq001 i1 i2 j1 j2) (a0.put (some e2) (ptrV p2)) w := by
  intro p2 w hb b2 x2
  have hs : B ≤ w.heap.size := Nat.le_trans (Nat.le_of_eq h.hB) hb.size
  refine ⟨?_, ?_⟩
  · refine h.s1 _ _ _ (Ag.put (Ag.refl S a0) h.n4 (ptrV p2)) hb (fun w' hw => ⟨hw.mono hs, ?_⟩)
    rw [Act.put_comm a0 (ptrV p2) v1 (ne_put h.e12.2.2.1)]
    exact pair101 h p2 w' (hb.trans (hw.mono hs)) b2 ((hw.block p2 (heap_lt x2)).trans x2)
  · refine h.t1 _ _ _ ⟨(Below.refl _ _).alloc hs _, ?_⟩
    rw [Act.put_comm a0 (ptrV p2) (ptrV w.heap.size) (ne_put h.e12.2.2.2.2)]
    exact pair011 h w.heap.size p2 _ (hb.trans ((Below.refl _ _).alloc hs _)) hs (heap_alloc_new w _) b2 ((heap_alloc_old _ _ (heap_lt x2)).trans x2) (fun e => by have := heap_lt x2; omega)
theorem pair010 (h : PairOk P ops Q T B i1 i2 j1 j2 d1 d2 e1 e2 w0 S a0 v1 v2 cs ty) : ∀ (p1 : Nat) (w : World), Below B w0 w → B ≤ p1 → w.heap[p1]? = some (.cells cs ty (0, 0)) → wpQ P ops Q T B (pq010 i1 i2 j1 j2) (a0.put (some e1) (ptrV p1)) w := by
  intro p1 w hb b1 x1
  have hs : B ≤ w.heap.size := Nat.le_trans (Nat.le_of_eq h.hB) hb.size
  refine ⟨?_, ?_⟩
  · refine h.s1 _ _ _ (Ag.put (Ag.refl S a0) h.n3 (ptrV p1)) hb (fun w' hw => ⟨hw.mono hs, ?_⟩)
    rw [Act.put_comm a0 (ptrV p1) v1 (ne_put h.e12.1)]
    exact pair110 h p1 w' (hb.trans (hw.mono hs)) b1 ((hw.block p1 (heap_lt x1)).trans x1)
  · refine h.t2 _ _ _ ⟨(Below.refl _ _).alloc hs _, ?_⟩
    exact pair011 h p1 w.heap.size _ (hb.trans ((Below.refl _ _).alloc hs _)) b1 ((heap_alloc_old _ _ (heap_lt x1)).trans x1) hs (heap_alloc_new w _) (fun e => by have := heap_lt x1; omega)
theorem pair100 (h : PairOk P ops Q T B i1 i2 j1 j2 d1 d2 e1 e2 w0 S a0 v1 v2 cs ty) : ∀ (w : World), Below B w0 w → wpQ P ops Q T B (pq100 i1 i2 j1 j2) (a0.put (some d1) v1) w := by
  intro  w hb
  have hs : B ≤ w.heap.size := Nat.le_trans (Nat.le_of_eq h.hB) hb.size
  refine ⟨?_, ?_, ?_⟩
  · refine h.s2 _ _ _ (Ag.put (Ag.refl S a0) h.n1 v1) hb (fun w' hw => ⟨hw.mono hs, ?_⟩)
    exact pair200 h  w' (hb.trans (hw.mono hs))
  · refine h.t1 _ _ _ ⟨(Below.refl _ _).alloc hs _, ?_⟩
    exact pair110 h w.heap.size _ (hb.trans ((Below.refl _ _).alloc hs _)) hs (heap_alloc_new w _)
  · refine h.t2 _ _ _ ⟨(Below.refl _ _).alloc hs _, ?_⟩
    exact pair101 h w.heap.size _ (hb.trans ((Below.refl _ _).alloc hs _)) hs (heap_alloc_new w _)
theorem pair000 (h : PairOk P ops Q T B i1 i2 j1 j2 d1 d2 e1 e2 w0 S a0 v1 v2 cs ty) : ∀ (w : World), Below B w0 w → wpQ P ops Q T B (pq000 i1 i2 j1 j2) a0 w := by
  intro  w hb
  have hs : B ≤ w.heap.size := Nat.le_trans (Nat.le_of_eq h.hB) hb.size
  refine ⟨?_, ?_, ?_⟩
  · refine h.s1 _ _ _ (Ag.refl S a0) hb (fun w' hw => ⟨hw.mono hs, ?_⟩)
    exact pair100 h  w' (hb.trans (hw.mono hs))
  · refine h.t1 _ _ _ ⟨(Below.refl _ _).alloc hs _, ?_⟩
    exact pair010 h w.heap.size _ (hb.trans ((Below.refl _ _).alloc hs _)) hs (heap_alloc_new w _)
  · refine h.t2 _ _ _ ⟨(Below.refl _ _).alloc hs _, ?_⟩
    exact pair001 h w.heap.size _ (hb.trans ((Below.refl _ _).alloc hs _)) hs (heap_alloc_new w _)
theorem qpair_any (h : PairOk P ops Q T B i1 i2 j1 j2 d1 d2 e1 e2 w0 S a0 v1 v2 cs ty) : wpQ P ops Q T B (pairQ i1 i2 j1 j2) a0 w0 := pair000 h w0 (Below.refl _ _)
end
end Go.Proofs.YtbldlidpapdkbaaGreat

/- What the program's allocation (layer 12) is to tell. -/
namespace Go.Proofs.YtbldlidpapdkbaaGreat
open Go.RowKit

def TurnedAt (g base cap : Nat) (A : Option Addr) (bs : List UInt8) (H : Hp) (y : Option Nat × Hp) (w : World) (e : Ending) (w' : World) : Prop :=
  match y.1 with
  | none => e = .returned (.tuple #[.int .i64 0, errV false 5]) ∧ Below w.heap.size w w'
  | some o => e = .returned (.tuple #[.int .i64 (o : Int), errV true 5]) ∧ ∃ out, Became 82 g base cap A out w w' ∧ Rt out y.2 ∧ Held H bs y.2 out

def TakeK : Prop := ∀ (w : World) (g base cap c : Nat) (A : Option Addr) (bs : List UInt8) (H : Hp) (s : Int), Ar w 82 g base cap A c bs → base ≤ 4611686018427387904 → cap ≤ 16384 → H.cap = cap → Rt bs H → (-9223372036854775808 ≤ s ∧ s ≤ 9223372036854775807) →
  (isSz s = false → Calls Tryz.prog 52 #[.pointer (some ⟨g, 0, none⟩), .int .i64 s] w fun e w' => e = .returned (.tuple #[.int .i64 0, errV false 1]) ∧ Below w.heap.size w w') ∧
  (isSz s = true → Calls Tryz.prog 52 #[.pointer (some ⟨g, 0, none⟩), .int .i64 s] w fun e w' => TurnedAt g base cap A bs H (H.take s.toNat) w e w')
def UsedK : Prop := ∀ (w : World) (g base cap c : Nat) (A : Option Addr) (bs : List UInt8) (H : Hp) (o : Int), Ar w 82 g base cap A c bs → base ≤ 4611686018427387904 → cap ≤ 16384 → H.cap = cap → Rt bs H → (-9223372036854775808 ≤ o ∧ o ≤ 9223372036854775807) →
  Calls Tryz.prog 54 #[.pointer (some ⟨g, 0, none⟩), .int .i64 o] w fun e w' => BlkTold ((usedB H.blks o).map (bkAt H.blks)) w e w'
end Go.Proofs.YtbldlidpapdkbaaGreat

/- The program's taking (layer 12): the free block that stands at an offset, or ends there; taking one out of its list; these and other calls behind steps that changed the arena (gentak1.py). -/
namespace Go.Proofs.YtbldlidpapdkbaaGreat
open Go.RowKit

/-- A free block's value; one of no bytes, if there is none. -/
def frV (o : Int) : Option Bk → Value
  | none => .agg #[.int .i64 o, .int .i64 0, .bool false]
  | some y => .agg #[.int .i64 (y.off : Int), .int .i64 (y.size : Int), .bool false]
set_option maxRecDepth 100000 in
theorem blk_ret1 {fn : Func} {R : Ending → World → Prop} {a : Act} {w : World} {p : Tmp} {g : Nat} {o s : Int} {b : Bool} (hres : fn.results = #[.cell p 50]) (hp : a.tmps.getD p undef = .pointer (some ⟨g, 0, none⟩)) (hd : a.defers = [])
    (hg : w.heap[g]? = some (.cells #[.int .i64 o, .int .i64 s, .bool b] 50 (0, 0))) (hR : R (.returned (.agg #[.int .i64 o, .int .i64 s, .bool b])) w) : bodyPost Tryz.prog fn R .ret a w := by
  refine bodyPost_ret (v := .agg #[.int .i64 o, .int .i64 s, .bool b]) ?_ hd hR
  exact results_cell_row hres _ _ g _ _ _ _ hp hg rfl rfl rfl

section
variable {w : World} {g base cap c : Nat} {A : Option Addr} {bs : List UInt8}
set_option maxRecDepth 100000 in
set_option maxHeartbeats 1000000 in
theorem freeAt_none (h : Ar w 82 g base cap A c bs) (hb : base ≤ 4611686018427387904) (hl : bs.length ≤ 16384) (o : Int) (ho : -9223372036854775808 ≤ o ∧ o ≤ 9223372036854775807) (hy : getB bs o = none) :
    Calls Tryz.prog 70 #[.pointer (some ⟨g, 0, none⟩), .int .i64 o] w fun e w' => e = .returned (frV o none) ∧ Below w.heap.size w w' := by
  obtain ⟨w1, hw1⟩ : ∃ w1, w.alloc (.cells #[.int .i64 0, .int .i64 0, .bool false] 50) = w1 := ⟨_, rfl⟩
  have hb1 : Below w.heap.size w w1 := by rw [← hw1]; exact (Below.refl _ _).alloc (Nat.le_refl _) _
  have hn1 : w1.heap[w.heap.size]? = some (.cells #[.int .i64 0, .int .i64 0, .bool false] 50 (0, 0)) := by rw [← hw1]; exact heap_alloc_new w _
  have h1 := h.below hb1
  have hG := getC w1 g base cap c A bs o _ h1 hb hl ho hy
  dsimp only [BlkTold, bkV, Bk.val, Option.isSome, errV] at hG
  have HG := Lib.hid hG
  have HW1 := Lib.hid hw1
  have HB1 := Lib.hid hb1
  have HN1 := Lib.hid hn1
  clear hG hy hw1 hb1 hn1 h1 h
  go_enter Tryz.func70, Tryz.ntmps70
  go_wp2_with fail
  rw [HW1.out]
  with_reducible refine HG.out.mono ?_
  rintro e w2 ⟨rfl, hb2⟩
  have hn2 := (hb2.block w.heap.size (heap_lt HN1.out)).trans HN1.out
  have HB2 := Lib.hid (HB1.out.trans (hb2.mono HB1.out.size))
  have HN2 := Lib.hid hn2
  clear hb2 hn2 HG
  obtain ⟨⟨c0, c1, c2⟩, f0, f1, f2⟩ := blk_cells HN2.out
  have hlt := heap_lt' HN2.out
  go_wp2
  (try simp only [Exit.inBlock, Exit.then])
  refine blk_ret1 (g := w.heap.size) (o := o) (s := 0) (b := false) Tryz.results70 ?_ ?_ ((heap_alloc_old _ _ (heap_lt (blk_set HN2.out _ _ _))).trans (blk_set HN2.out _ _ _)) ?_
  · rfl
  · rfl
  · refine ⟨rfl, Below.alloc (((HB2.out.setCell ?_ _).setCell ?_ _).setCell ?_ _) ?_ _⟩
    · exact Nat.le_refl _
    · exact Nat.le_refl _
    · exact Nat.le_refl _
    · simp only [World.setCell]
      have h9 := HB2.out.size
      simpa using h9

set_option maxRecDepth 100000 in
set_option maxHeartbeats 1000000 in
theorem freeAt_used (h : Ar w 82 g base cap A c bs) (hb : base ≤ 4611686018427387904) (hl : bs.length ≤ 16384) (o : Int) (ho : -9223372036854775808 ≤ o ∧ o ≤ 9223372036854775807) (xo xs : Nat) (hy : getB bs o = some ⟨xo, xs, true⟩) :
    Calls Tryz.prog 70 #[.pointer (some ⟨g, 0, none⟩), .int .i64 o] w fun e w' => e = .returned (frV o none) ∧ Below w.heap.size w w' := by
  obtain ⟨w1, hw1⟩ : ∃ w1, w.alloc (.cells #[.int .i64 0, .int .i64 0, .bool false] 50) = w1 := ⟨_, rfl⟩
  have hb1 : Below w.heap.size w w1 := by rw [← hw1]; exact (Below.refl _ _).alloc (Nat.le_refl _) _
  have hn1 : w1.heap[w.heap.size]? = some (.cells #[.int .i64 0, .int .i64 0, .bool false] 50 (0, 0)) := by rw [← hw1]; exact heap_alloc_new w _
  have h1 := h.below hb1
  have hG := getC w1 g base cap c A bs o _ h1 hb hl ho hy
  dsimp only [BlkTold, bkV, Bk.val, Option.isSome, errV] at hG
  have HG := Lib.hid hG
  have HW1 := Lib.hid hw1
  have HB1 := Lib.hid hb1
  have HN1 := Lib.hid hn1
  clear hG hy hw1 hb1 hn1 h1 h
  go_enter Tryz.func70, Tryz.ntmps70
  go_wp2_with fail
  rw [HW1.out]
  with_reducible refine HG.out.mono ?_
  rintro e w2 ⟨rfl, hb2⟩
  have hn2 := (hb2.block w.heap.size (heap_lt HN1.out)).trans HN1.out
  have HB2 := Lib.hid (HB1.out.trans (hb2.mono HB1.out.size))
  have HN2 := Lib.hid hn2
  clear hb2 hn2 HG
  obtain ⟨⟨c0, c1, c2⟩, f0, f1, f2⟩ := blk_cells HN2.out
  have hlt := heap_lt' HN2.out
  go_wp2
  (try simp only [Exit.inBlock, Exit.then])
  refine blk_ret1 (g := w.heap.size) (o := o) (s := 0) (b := false) Tryz.results70 ?_ ?_ ((heap_alloc_old _ _ (heap_lt (blk_set HN2.out _ _ _))).trans (blk_set HN2.out _ _ _)) ?_
  · rfl
  · rfl
  · refine ⟨rfl, Below.alloc (((HB2.out.setCell ?_ _).setCell ?_ _).setCell ?_ _) ?_ _⟩
    · exact Nat.le_refl _
    · exact Nat.le_refl _
    · exact Nat.le_refl _
    · simp only [World.setCell]
      have h9 := HB2.out.size
      simpa using h9

set_option maxRecDepth 100000 in
set_option maxHeartbeats 1000000 in
theorem freeAt_free (h : Ar w 82 g base cap A c bs) (hb : base ≤ 4611686018427387904) (hl : bs.length ≤ 16384) (o : Int) (ho : -9223372036854775808 ≤ o ∧ o ≤ 9223372036854775807) (xo xs : Nat) (hy : getB bs o = some ⟨xo, xs, false⟩) :
    Calls Tryz.prog 70 #[.pointer (some ⟨g, 0, none⟩), .int .i64 o] w fun e w' => e = .returned (frV o (some ⟨xo, xs, false⟩)) ∧ Below w.heap.size w w' := by
  obtain ⟨w1, hw1⟩ : ∃ w1, w.alloc (.cells #[.int .i64 0, .int .i64 0, .bool false] 50) = w1 := ⟨_, rfl⟩
  have hb1 : Below w.heap.size w w1 := by rw [← hw1]; exact (Below.refl _ _).alloc (Nat.le_refl _) _
  have hn1 : w1.heap[w.heap.size]? = some (.cells #[.int .i64 0, .int .i64 0, .bool false] 50 (0, 0)) := by rw [← hw1]; exact heap_alloc_new w _
  have h1 := h.below hb1
  have hG := getC w1 g base cap c A bs o _ h1 hb hl ho hy
  dsimp only [BlkTold, bkV, Bk.val, Option.isSome, errV] at hG
  have HG := Lib.hid hG
  have HW1 := Lib.hid hw1
  have HB1 := Lib.hid hb1
  have HN1 := Lib.hid hn1
  clear hG hy hw1 hb1 hn1 h1 h
  go_enter Tryz.func70, Tryz.ntmps70
  go_wp2_with fail
  rw [HW1.out]
  with_reducible refine HG.out.mono ?_
  rintro e w2 ⟨rfl, hb2⟩
  have hn2 := (hb2.block w.heap.size (heap_lt HN1.out)).trans HN1.out
  have HB2 := Lib.hid (HB1.out.trans (hb2.mono HB1.out.size))
  have HN2 := Lib.hid hn2
  clear hb2 hn2 HG
  obtain ⟨⟨c0, c1, c2⟩, f0, f1, f2⟩ := blk_cells HN2.out
  have hlt := heap_lt' HN2.out
  go_wp2
  (try simp only [Exit.inBlock, Exit.then])
  refine blk_ret1 (g := w.heap.size) (o := (xo : Int)) (s := (xs : Int)) (b := false) Tryz.results70 ?_ ?_ ((heap_alloc_old _ _ (heap_lt (blk_set HN2.out _ _ _))).trans (blk_set HN2.out _ _ _)) ?_
  · rfl
  · rfl
  · refine ⟨rfl, Below.alloc (((HB2.out.setCell ?_ _).setCell ?_ _).setCell ?_ _) ?_ _⟩
    · exact Nat.le_refl _
    · exact Nat.le_refl _
    · exact Nat.le_refl _
    · simp only [World.setCell]
      have h9 := HB2.out.size
      simpa using h9

theorem freeAt_any (h : Ar w 82 g base cap A c bs) (hb : base ≤ 4611686018427387904) (hl : bs.length ≤ 16384) (o : Int) (ho : -9223372036854775808 ≤ o ∧ o ≤ 9223372036854775807) (y : Option Bk) (hy : frO (getB bs o) = y) :
    Calls Tryz.prog 70 #[.pointer (some ⟨g, 0, none⟩), .int .i64 o] w fun e w' => e = .returned (frV o y) ∧ Below w.heap.size w w' := by
  subst hy
  cases hg : getB bs o with
  | none => exact freeAt_none h hb hl o ho hg
  | some x =>
    obtain ⟨xo, xs, xu⟩ := x
    cases xu with
    | true => exact freeAt_used h hb hl o ho xo xs hg
    | false => exact freeAt_free h hb hl o ho xo xs hg
set_option maxRecDepth 100000 in
set_option maxHeartbeats 1000000 in
theorem freeAhead_none (h : Ar w 82 g base cap A c bs) (hb : base ≤ 4611686018427387904) (hl : bs.length ≤ 16384) (o : Int) (ho : -9223372036854775808 ≤ o ∧ o ≤ 9223372036854775807) (hy : aheadB bs o = none) :
    Calls Tryz.prog 71 #[.pointer (some ⟨g, 0, none⟩), .int .i64 o] w fun e w' => e = .returned (frV o none) ∧ Below w.heap.size w w' := by
  obtain ⟨w1, hw1⟩ : ∃ w1, w.alloc (.cells #[.int .i64 0, .int .i64 0, .bool false] 50) = w1 := ⟨_, rfl⟩
  have hb1 : Below w.heap.size w w1 := by rw [← hw1]; exact (Below.refl _ _).alloc (Nat.le_refl _) _
  have hn1 : w1.heap[w.heap.size]? = some (.cells #[.int .i64 0, .int .i64 0, .bool false] 50 (0, 0)) := by rw [← hw1]; exact heap_alloc_new w _
  have h1 := h.below hb1
  have hG := aheadC w1 g base cap c A bs o _ h1 hb hl ho hy
  dsimp only [BlkTold, bkV, Bk.val, Option.isSome, errV] at hG
  have HG := Lib.hid hG
  have HW1 := Lib.hid hw1
  have HB1 := Lib.hid hb1
  have HN1 := Lib.hid hn1
  clear hG hy hw1 hb1 hn1 h1 h
  go_enter Tryz.func71, Tryz.ntmps71
  go_wp2_with fail
  rw [HW1.out]
  with_reducible refine HG.out.mono ?_
  rintro e w2 ⟨rfl, hb2⟩
  have hn2 := (hb2.block w.heap.size (heap_lt HN1.out)).trans HN1.out
  have HB2 := Lib.hid (HB1.out.trans (hb2.mono HB1.out.size))
  have HN2 := Lib.hid hn2
  clear hb2 hn2 HG
  obtain ⟨⟨c0, c1, c2⟩, f0, f1, f2⟩ := blk_cells HN2.out
  have hlt := heap_lt' HN2.out
  go_wp2
  (try simp only [Exit.inBlock, Exit.then])
  refine blk_ret1 (g := w.heap.size) (o := o) (s := 0) (b := false) Tryz.results71 ?_ ?_ ((heap_alloc_old _ _ (heap_lt (blk_set HN2.out _ _ _))).trans (blk_set HN2.out _ _ _)) ?_
  · rfl
  · rfl
  · refine ⟨rfl, Below.alloc (((HB2.out.setCell ?_ _).setCell ?_ _).setCell ?_ _) ?_ _⟩
    · exact Nat.le_refl _
    · exact Nat.le_refl _
    · exact Nat.le_refl _
    · simp only [World.setCell]
      have h9 := HB2.out.size
      simpa using h9

set_option maxRecDepth 100000 in
set_option maxHeartbeats 1000000 in
theorem freeAhead_used (h : Ar w 82 g base cap A c bs) (hb : base ≤ 4611686018427387904) (hl : bs.length ≤ 16384) (o : Int) (ho : -9223372036854775808 ≤ o ∧ o ≤ 9223372036854775807) (xo xs : Nat) (hy : aheadB bs o = some ⟨xo, xs, true⟩) :
    Calls Tryz.prog 71 #[.pointer (some ⟨g, 0, none⟩), .int .i64 o] w fun e w' => e = .returned (frV o none) ∧ Below w.heap.size w w' := by
  obtain ⟨w1, hw1⟩ : ∃ w1, w.alloc (.cells #[.int .i64 0, .int .i64 0, .bool false] 50) = w1 := ⟨_, rfl⟩
  have hb1 : Below w.heap.size w w1 := by rw [← hw1]; exact (Below.refl _ _).alloc (Nat.le_refl _) _
  have hn1 : w1.heap[w.heap.size]? = some (.cells #[.int .i64 0, .int .i64 0, .bool false] 50 (0, 0)) := by rw [← hw1]; exact heap_alloc_new w _
  have h1 := h.below hb1
  have hG := aheadC w1 g base cap c A bs o _ h1 hb hl ho hy
  dsimp only [BlkTold, bkV, Bk.val, Option.isSome, errV] at hG
  have HG := Lib.hid hG
  have HW1 := Lib.hid hw1
  have HB1 := Lib.hid hb1
  have HN1 := Lib.hid hn1
  clear hG hy hw1 hb1 hn1 h1 h
  go_enter Tryz.func71, Tryz.ntmps71
  go_wp2_with fail
  rw [HW1.out]
  with_reducible refine HG.out.mono ?_
  rintro e w2 ⟨rfl, hb2⟩
  have hn2 := (hb2.block w.heap.size (heap_lt HN1.out)).trans HN1.out
  have HB2 := Lib.hid (HB1.out.trans (hb2.mono HB1.out.size))
  have HN2 := Lib.hid hn2
  clear hb2 hn2 HG
  obtain ⟨⟨c0, c1, c2⟩, f0, f1, f2⟩ := blk_cells HN2.out
  have hlt := heap_lt' HN2.out
  go_wp2
  (try simp only [Exit.inBlock, Exit.then])
  refine blk_ret1 (g := w.heap.size) (o := o) (s := 0) (b := false) Tryz.results71 ?_ ?_ ((heap_alloc_old _ _ (heap_lt (blk_set HN2.out _ _ _))).trans (blk_set HN2.out _ _ _)) ?_
  · rfl
  · rfl
  · refine ⟨rfl, Below.alloc (((HB2.out.setCell ?_ _).setCell ?_ _).setCell ?_ _) ?_ _⟩
    · exact Nat.le_refl _
    · exact Nat.le_refl _
    · exact Nat.le_refl _
    · simp only [World.setCell]
      have h9 := HB2.out.size
      simpa using h9

set_option maxRecDepth 100000 in
set_option maxHeartbeats 1000000 in
theorem freeAhead_free (h : Ar w 82 g base cap A c bs) (hb : base ≤ 4611686018427387904) (hl : bs.length ≤ 16384) (o : Int) (ho : -9223372036854775808 ≤ o ∧ o ≤ 9223372036854775807) (xo xs : Nat) (hy : aheadB bs o = some ⟨xo, xs, false⟩) :
    Calls Tryz.prog 71 #[.pointer (some ⟨g, 0, none⟩), .int .i64 o] w fun e w' => e = .returned (frV o (some ⟨xo, xs, false⟩)) ∧ Below w.heap.size w w' := by
  obtain ⟨w1, hw1⟩ : ∃ w1, w.alloc (.cells #[.int .i64 0, .int .i64 0, .bool false] 50) = w1 := ⟨_, rfl⟩
  have hb1 : Below w.heap.size w w1 := by rw [← hw1]; exact (Below.refl _ _).alloc (Nat.le_refl _) _
  have hn1 : w1.heap[w.heap.size]? = some (.cells #[.int .i64 0, .int .i64 0, .bool false] 50 (0, 0)) := by rw [← hw1]; exact heap_alloc_new w _
  have h1 := h.below hb1
  have hG := aheadC w1 g base cap c A bs o _ h1 hb hl ho hy
  dsimp only [BlkTold, bkV, Bk.val, Option.isSome, errV] at hG
  have HG := Lib.hid hG
  have HW1 := Lib.hid hw1
  have HB1 := Lib.hid hb1
  have HN1 := Lib.hid hn1
  clear hG hy hw1 hb1 hn1 h1 h
  go_enter Tryz.func71, Tryz.ntmps71
  go_wp2_with fail
  rw [HW1.out]
  with_reducible refine HG.out.mono ?_
  rintro e w2 ⟨rfl, hb2⟩
  have hn2 := (hb2.block w.heap.size (heap_lt HN1.out)).trans HN1.out
  have HB2 := Lib.hid (HB1.out.trans (hb2.mono HB1.out.size))
  have HN2 := Lib.hid hn2
  clear hb2 hn2 HG
  obtain ⟨⟨c0, c1, c2⟩, f0, f1, f2⟩ := blk_cells HN2.out
  have hlt := heap_lt' HN2.out
  go_wp2
  (try simp only [Exit.inBlock, Exit.then])
  refine blk_ret1 (g := w.heap.size) (o := (xo : Int)) (s := (xs : Int)) (b := false) Tryz.results71 ?_ ?_ ((heap_alloc_old _ _ (heap_lt (blk_set HN2.out _ _ _))).trans (blk_set HN2.out _ _ _)) ?_
  · rfl
  · rfl
  · refine ⟨rfl, Below.alloc (((HB2.out.setCell ?_ _).setCell ?_ _).setCell ?_ _) ?_ _⟩
    · exact Nat.le_refl _
    · exact Nat.le_refl _
    · exact Nat.le_refl _
    · simp only [World.setCell]
      have h9 := HB2.out.size
      simpa using h9

theorem freeAhead_any (h : Ar w 82 g base cap A c bs) (hb : base ≤ 4611686018427387904) (hl : bs.length ≤ 16384) (o : Int) (ho : -9223372036854775808 ≤ o ∧ o ≤ 9223372036854775807) (y : Option Bk) (hy : frO (aheadB bs o) = y) :
    Calls Tryz.prog 71 #[.pointer (some ⟨g, 0, none⟩), .int .i64 o] w fun e w' => e = .returned (frV o y) ∧ Below w.heap.size w w' := by
  subst hy
  cases hg : aheadB bs o with
  | none => exact freeAhead_none h hb hl o ho hg
  | some x =>
    obtain ⟨xo, xs, xu⟩ := x
    cases xu with
    | true => exact freeAhead_used h hb hl o ho xo xs hg
    | false => exact freeAhead_free h hb hl o ho xo xs hg

set_option maxHeartbeats 1000000 in
theorem takeOut_none (o : Int) :
    Calls Tryz.prog 72 #[.pointer (some ⟨g, 0, none⟩), .agg #[.int .i64 o, .int .i64 0, .bool false]] w fun e w' => e = .returned (.tuple #[]) ∧ Below w.heap.size w w' := by
  go_enter Tryz.func72, Tryz.ntmps72
  go_wp2
  go_end0
  exact ⟨rfl, (Below.refl _ _).alloc (Nat.le_refl _) _⟩
set_option maxHeartbeats 1000000 in
theorem takeOut_some (h : Ar w 82 g base cap A c bs) (hb : base ≤ 4611686018427387904) (hl : bs.length ≤ 16384) (o s : Nat) (ho : (o : Int) ≤ 9223372036854775807) (hs : (0 : Int) < (s : Int)) (out : List UInt8) (hy : takeB bs (o : Int) = some out) :
    Calls Tryz.prog 72 #[.pointer (some ⟨g, 0, none⟩), .agg #[.int .i64 (o : Int), .int .i64 (s : Int), .bool false]] w fun e w' => e = .returned (.tuple #[]) ∧ Became 82 g base cap A out w w' := by
  obtain ⟨w1, hw1⟩ : ∃ w1, w.alloc (.cells #[.int .i64 (o : Int), .int .i64 (s : Int), .bool false] 50) = w1 := ⟨_, rfl⟩
  have hb1 : Below w.heap.size w w1 := by rw [← hw1]; exact (Below.refl _ _).alloc (Nat.le_refl _) _
  have hT := takeC w1 g base cap c A bs (o : Int) _ (h.below hb1) hb hl (by omega) hy
  dsimp only [Done, errV] at hT
  have HT := Lib.hid hT
  have HW1 := Lib.hid hw1
  have HB1 := Lib.hid hb1
  clear hT hy hw1 hb1 h
  go_enter Tryz.func72, Tryz.ntmps72
  go_wp2_with fail
  rw [HW1.out]
  with_reducible refine HT.out.mono ?_
  rintro e w2 ⟨rfl, hb2⟩
  have HB2 := Lib.hid (hb2.after HB1.out)
  clear hb2 HT
  go_wp2
  go_end0
  exact ⟨rfl, HB2.out⟩
end

/-- A local block stays as it is. -/
def Loc (w w' : World) : Prop := ∀ (k : Nat) (cs : Array Value), w.heap[k]? = some (.cells cs 50 (0, 0)) → w'.heap[k]? = some (.cells cs 50 (0, 0))
theorem Loc.refl (w : World) : Loc w w := fun _ _ h => h
theorem Loc.trans {w w1 w2 : World} (h : Loc w w1) (k : Loc w1 w2) : Loc w w2 := fun i cs hi => k i cs (h i cs hi)
theorem Loc.below {w w' : World} (h : Below w.heap.size w w') : Loc w w' := fun i _ hi => (h.block i (heap_lt hi)).trans hi
theorem ar_ne {w : World} {g base cap c : Nat} {A : Option Addr} {bs : List UInt8} (h : Ar w 82 g base cap A c bs) {k : Nat} {cs : Array Value} (hk : w.heap[k]? = some (.cells cs 50 (0, 0))) : ¬ foot g A k := by
  rintro (rfl | ⟨a, ea, rfl⟩)
  · have h1 := h.obj
    rw [hk] at h1
    injection h1 with h1
    injection h1 with _ h2 _
    exact absurd h2 (by decide)
  · obtain ⟨h', e, cur, h1, _⟩ := h.row ea
    rw [e] at hk
    have hk : w.heap[h']? = some (.cells cs 50 (0, 0)) := hk
    rw [hk] at h1
    injection h1 with h1
    injection h1 with _ h2 _
    exact absurd h2 (by decide)
theorem Loc.tch {w w' : World} {g base cap c : Nat} {A : Option Addr} {bs : List UInt8} (h : Ar w 82 g base cap A c bs) (ht : Tch (foot g A) w w') : Loc w w' := fun i _ hi => (ht.block i (heap_lt hi) (ar_ne h hi)).trans hi

section
variable {w w1 : World} {g base cap : Nat} {A : Option Addr} {b1 b2 : List UInt8}
/-- A local block is changed. -/
theorem became_loc {k : Nat} {cs : Array Value} (h : Became 82 g base cap A b1 w w1) (hk : w1.heap[k]? = some (.cells cs 50 (0, 0))) (hB : w.heap.size ≤ k) (i : Nat) (v : Value) : Became 82 g base cap A b1 w (w1.setCell ⟨k, i, none⟩ v) := by
  obtain ⟨A', c', a, tc, kk⟩ := h
  have hne := ar_ne a hk
  refine ⟨A', c', a.keep fun q hq => Below.heap_setCell w1 ⟨k, i, none⟩ v q (fun e => by have e : q = k := e; subst e; exact hne hq), ?_, kk⟩
  exact ⟨tc.os, tc.tape, tc.output, by simpa [World.setCell] using tc.size, fun q hq hn => (Below.heap_setCell w1 ⟨k, i, none⟩ v q (fun e => by have e : q = k := e; omega)).trans (tc.block q hq hn)⟩
theorem became_alloc (h : Became 82 g base cap A b1 w w1) (o : Obj) : Became 82 g base cap A b1 w (w1.alloc o) := became_below h ((Below.refl _ _).alloc (Nat.le_refl _) _)
theorem bc_at (h : Became 82 g base cap A b1 w w1) (hb : base ≤ 4611686018427387904) (hl : b1.length ≤ 16384) (o : Int) (ho : -9223372036854775808 ≤ o ∧ o ≤ 9223372036854775807) (y : Option Bk) (hy : frO (getB b1 o) = y) :
    Calls Tryz.prog 70 #[.pointer (some ⟨g, 0, none⟩), .int .i64 o] w1 fun e w2 => e = .returned (frV o y) ∧ Became 82 g base cap A b1 w w2 ∧ Below w1.heap.size w1 w2 := by
  obtain ⟨A', c', a, tc, k⟩ := h
  refine (freeAt_any a hb hl o ho y hy).mono ?_
  rintro e w2 ⟨h1, h2⟩
  exact ⟨h1, became_below ⟨A', c', a, tc, k⟩ h2, h2⟩
theorem bc_ahead (h : Became 82 g base cap A b1 w w1) (hb : base ≤ 4611686018427387904) (hl : b1.length ≤ 16384) (o : Int) (ho : -9223372036854775808 ≤ o ∧ o ≤ 9223372036854775807) (y : Option Bk) (hy : frO (aheadB b1 o) = y) :
    Calls Tryz.prog 71 #[.pointer (some ⟨g, 0, none⟩), .int .i64 o] w1 fun e w2 => e = .returned (frV o y) ∧ Became 82 g base cap A b1 w w2 ∧ Below w1.heap.size w1 w2 := by
  obtain ⟨A', c', a, tc, k⟩ := h
  refine (freeAhead_any a hb hl o ho y hy).mono ?_
  rintro e w2 ⟨h1, h2⟩
  exact ⟨h1, became_below ⟨A', c', a, tc, k⟩ h2, h2⟩
theorem bc_out (h : Became 82 g base cap A b1 w w1) (hb : base ≤ 4611686018427387904) (hl : b1.length ≤ 16384) (o : Int) (y : Option Bk) (hs : ∀ z, y = some z → 0 < z.size ∧ z.off ≤ 16384) (hy : outB b1 y = some b2) :
    Calls Tryz.prog 72 #[.pointer (some ⟨g, 0, none⟩), frV o y] w1 fun e w2 => e = .returned (.tuple #[]) ∧ Became 82 g base cap A b2 w w2 ∧ Loc w1 w2 := by
  cases y with
  | none =>
    injection hy with hy
    subst hy
    refine (takeOut_none o).mono ?_
    rintro e w2 ⟨h1, h2⟩
    exact ⟨h1, became_below h h2, Loc.below h2⟩
  | some z =>
    obtain ⟨A', c', a, tc, k⟩ := h
    have hz := hs z rfl
    refine (takeOut_some a hb hl z.off z.size (by omega) (by omega) b2 hy).mono ?_
    rintro e w2 ⟨h1, h2⟩
    have h2' := h2
    obtain ⟨_, _, _, ht, _⟩ := h2'
    exact ⟨h1, Became.trans a tc k h2, Loc.tch a ht⟩
theorem bc_set (h : Became 82 g base cap A b1 w w1) (hb : base ≤ 4611686018427387904) (hl : b1.length ≤ 16384) (o s : Nat) (u : Bool) (ho : o ≤ 16384) (hs : s ≤ 16384) (hy : setB b1 (o : Int) (s : Int) u = some b2) :
    Calls Tryz.prog 73 #[.pointer (some ⟨g, 0, none⟩), .agg #[.int .i64 (o : Int), .int .i64 (s : Int), .bool u]] w1 fun e w2 => e = .returned .nilIface ∧ Became 82 g base cap A b2 w w2 ∧ Loc w1 w2 := by
  obtain ⟨A', c', a, tc, k⟩ := h
  refine (setC w1 g base cap c' A' b1 (o : Int) (s : Int) u _ a hb hl (by omega) (by omega) hy).mono ?_
  rintro e w2 ⟨h1, h2⟩
  have h2' := h2
  obtain ⟨_, _, _, ht, _⟩ := h2'
  exact ⟨h1, Became.trans a tc k h2, Loc.tch a ht⟩
theorem bc_put (h : Became 82 g base cap A b1 w w1) (hb : base ≤ 4611686018427387904) (hl : b1.length ≤ 16384) (o : Nat) (ho : o ≤ 16384) (hy : putB b1 (o : Int) = some b2) :
    Calls Tryz.prog 74 #[.pointer (some ⟨g, 0, none⟩), .int .i64 (o : Int)] w1 fun e w2 => e = .returned .nilIface ∧ Became 82 g base cap A b2 w w2 ∧ Loc w1 w2 := by
  obtain ⟨A', c', a, tc, k⟩ := h
  refine (putC w1 g base cap c' A' b1 (o : Int) _ a hb hl (by omega) hy).mono ?_
  rintro e w2 ⟨h1, h2⟩
  have h2' := h2
  obtain ⟨_, _, _, ht, _⟩ := h2'
  exact ⟨h1, Became.trans a tc k h2, Loc.tch a ht⟩
theorem bc_grow (h : Became 82 g base cap A b1 w w1) (n : Nat) (hl : b1.length ≤ cap) (hcap : cap ≤ 16384) (hn : b1.length + n ≤ cap) :
    Calls Tryz.prog 21 #[.pointer (some ⟨g, 0, none⟩), .int .i64 (n : Int)] w1 fun e w2 => e = .returned .nilIface ∧ Became 82 g base cap A (b1 ++ List.replicate n 0) w w2 ∧ Loc w1 w2 := by
  obtain ⟨A', c', a, tc, k⟩ := h
  refine (grow_ok a n hl hcap hn).mono ?_
  rintro e w2 ⟨h1, h2⟩
  have h2' := h2
  obtain ⟨_, _, _, ht, _⟩ := h2'
  exact ⟨h1, Became.trans a tc k h2, Loc.tch a ht⟩
end
end Go.Proofs.YtbldlidpapdkbaaGreat

/- The program's giving back (layer 12): a used block becomes free, and one with its free neighbours. -/
namespace Go.Proofs.YtbldlidpapdkbaaGreat
open Go.RowKit

theorem frV_eq (o : Int) (y : Option Bk) : frV o y = .agg #[.int .i64 ((y.map fun z => (z.off : Int)).getD o), .int .i64 (((y.map Bk.size).getD 0 : Nat) : Int), .bool false] := by cases y <;> rfl
theorem setB_range {bs out : List UInt8} {o s : Int} {u : Bool} (h : setB bs o s u = some out) : 184 ≤ o ∧ 32 ≤ s ∧ o + s ≤ bs.length := by
  unfold setB at h
  split at h
  · rename_i hc
    have h1 := (isSz_iff _).1 hc.1
    have h2 := (could_iff _ _ _).1 hc.2
    omega
  · cases h
theorem Rt.bound {bs : List UInt8} {H : Hp} (h : Rt bs H) (hc : H.cap ≤ 16384) : bs.length ≤ 16384 ∧ ∀ y ∈ H.blks, 184 ≤ y.off ∧ 32 ≤ y.size ∧ y.off + y.size ≤ bs.length := by
  have hM := h.md hc
  refine ⟨hM.ls.small, fun y hy => ?_⟩
  have := hM.ls.st.facts hy
  omega

/-- A struct of a block is stored. -/
theorem wpl_blk {ops : Array Oper} {Q : Exit → Act → World → Prop} {o : Oper} {rest : List Oper} {a : Act} {w : World} {x y : Operand} {gx : Nat} {p q : Int} {r : Bool} {v0 v1 v2 : Value} (ho : o.op = .store 50 x y) (hd : o.dst = none)
    (hw : Region.wanted o (yielded ops a.tmps) = true) (hx : a.eval x = .pointer (some ⟨gx, 0, none⟩)) (hy : a.eval y = .agg #[.int .i64 p, .int .i64 q, .bool r]) (h : w.heap[gx]? = some (.cells #[v0, v1, v2] 50 (0, 0)))
    (hk : ∀ w', w'.heap[gx]? = some (.cells #[.int .i64 p, .int .i64 q, .bool r] 50 (0, 0)) → (∀ k, k ≠ gx → w'.heap[k]? = w.heap[k]?) → (∀ B, B ≤ gx → Below B w w') → wpList Tryz.prog ops Q rest a w') : wpList Tryz.prog ops Q (o :: rest) a w := by
  unfold wpList
  rw [if_pos hw]
  refine .inl ?_
  unfold Oper.wp
  rw [store_blk a.eval o x y ho w gx p q r v0 v1 v2 hx hy h]
  show wpList Tryz.prog ops Q rest (a.put o.dst undef) _
  rw [hd]
  refine hk _ (blk_set h _ _ _) (fun k hk => ?_) fun B hB => ?_
  · exact (Below.heap_setCell _ ⟨gx, 2, none⟩ _ k hk).trans ((Below.heap_setCell _ ⟨gx, 1, none⟩ _ k hk).trans (Below.heap_setCell _ ⟨gx, 0, none⟩ _ k hk))
  · exact (((Below.refl _ _).setCell (p := ⟨gx, 0, none⟩) hB _).setCell (p := ⟨gx, 1, none⟩) hB _).setCell (p := ⟨gx, 2, none⟩) hB _

section
variable {w : World} {g base cap c : Nat} {A : Option Addr} {bs : List UInt8} {H : Hp}
set_option maxRecDepth 100000 in
set_option maxHeartbeats 2000000 in
theorem giveBack_any (h : Ar w 82 g base cap A c bs) (hbase : base ≤ 4611686018427387904) (hcap : cap ≤ 16384) (hc : H.cap = cap) (hR : Rt bs H) {A1 B1 : List Bk} {p n : Option Bk} {xo xs : Nat}
    (hb : H.blks = (A1 ++ p.toList) ++ ⟨xo, xs, true⟩ :: (n.toList ++ B1)) (hN : Near A1 p n B1) :
    Calls Tryz.prog 55 #[.pointer (some ⟨g, 0, none⟩), .agg #[.int .i64 (xo : Int), .int .i64 (xs : Int), .bool true]] w fun e w' => e = .returned .nilIface ∧ ∃ out, Became 82 g base cap A out w w' ∧ Rt out (H.give (A1 ++ p.toList).length) ∧
      ∀ z ∈ H.blks, z.used = true → z ≠ ⟨xo, xs, true⟩ → ∀ i, Pay z i → out[i]? = bs[i]? := by
  obtain ⟨b1, b2, out, e1, e2, e3, e4, l1, l2, l3, l4, hRo, hP⟩ := hR.gives (by omega) hb hN rfl
  have hM := hR.md (by omega)
  obtain ⟨hl, hbd⟩ := hR.bound (by omega)
  have y1 := hM.behind hb hN
  have y2 := hM.ahead hb hN
  have hx := hbd ⟨xo, xs, true⟩ (by rw [hb]; simp)
  have hn : ∀ z, n = some z → 0 < z.size ∧ z.off ≤ 16384 := fun z hz => by have := hbd z (by rw [hb, hz]; simp); omega
  have hp : ∀ z, p = some z → 0 < z.size ∧ z.off ≤ 16384 := fun z hz => by have := hbd z (by rw [hb, hz]; simp); omega
  have r3 := setB_range e3
  obtain ⟨s3, hs3⟩ : ∃ s3, setT b2 (whole p ⟨xo, xs, true⟩ n) = s3 := ⟨_, rfl⟩
  rw [hs3] at e3 e4 l3
  obtain ⟨wo, hwo⟩ : ∃ wo, (whole p ⟨xo, xs, true⟩ n).off = wo := ⟨_, rfl⟩
  obtain ⟨ws, hws⟩ : ∃ ws, (whole p ⟨xo, xs, true⟩ n).size = ws := ⟨_, rfl⟩
  rw [hwo, hws] at e3 r3
  rw [hwo] at e4
  have f1 := frV_eq ((xo : Int) + (xs : Int)) n
  have f2 := frV_eq (xo : Int) p
  obtain ⟨no, hno⟩ : ∃ no : Int, (n.map fun z => (z.off : Int)).getD ((xo : Int) + (xs : Int)) = no := ⟨_, rfl⟩
  obtain ⟨nz, hnz⟩ : ∃ nz, (n.map Bk.size).getD 0 = nz := ⟨_, rfl⟩
  obtain ⟨pz, hpz⟩ : ∃ pz, (p.map Bk.size).getD 0 = pz := ⟨_, rfl⟩
  have hpo : (p.map fun z => (z.off : Int)).getD (xo : Int) = (wo : Int) := by rw [← hwo]; cases p <;> rfl
  rw [hno, hnz] at f1
  rw [hpo, hpz] at f2
  have hwe : ws = pz + xs + nz := by rw [← hws, ← hpz, ← hnz]; rfl
  dsimp only at y1 y2 hx
  -- the box
  obtain ⟨w1, hw1⟩ : ∃ w1, w.alloc (.cells #[.int .i64 (xo : Int), .int .i64 (xs : Int), .bool true] 50) = w1 := ⟨_, rfl⟩
  have hb1 : Below w.heap.size w w1 := by rw [← hw1]; exact (Below.refl _ _).alloc (Nat.le_refl _) _
  have n1 : w1.heap[w.heap.size]? = some (.cells #[.int .i64 (xo : Int), .int .i64 (xs : Int), .bool true] 50 (0, 0)) := by rw [← hw1]; exact heap_alloc_new w _
  have N1 := Lib.hid n1
  have BC0 : Became 82 g base cap A bs w w := ⟨A, c, h, Tch.refl _ _, .inl rfl⟩
  have BC1 := Lib.hid (became_below BC0 hb1.drew)
  clear BC0
  obtain ⟨⟨d0, d1, d2⟩, _⟩ := blk_cells n1
  have hlt1 := heap_lt n1
  have HW1 := Lib.hid hw1
  clear hw1 hb1 n1 h
  have HH := Lib.hid (show ∀ w', Became 82 g base cap A out w w' → ((Ending.returned .nilIface : Ending) = .returned .nilIface ∧ ∃ out, Became 82 g base cap A out w w' ∧ Rt out (H.give (A1 ++ p.toList).length) ∧ ∀ z ∈ H.blks, z.used = true → z ≠ ⟨xo, xs, true⟩ → ∀ i, Pay z i → out[i]? = bs[i]?) from fun w' hh => ⟨rfl, out, hh, hRo, hP⟩)
  clear hRo hP hM hbd hb hN hR
  go_enter Tryz.func55, Tryz.ntmps55
  go_wp2_with (first | (rw [HW1.out]) | fail)
  refine wp_region_q w1.heap.size [0, 1, 2, 3, 4, 5, 7, 8, 9] (pairQ 6 10 11 12) [13, 14] (by kernel_rfl) (by kernel_rfl) (by kernel_rfl) (fun _ _ _ _ _ h => h) ?_
  have q0 : ∀ z : LaterB w1.heap.size w1.drew, z.val.cell? ⟨w.heap.size, 0, none⟩ = some (.int .i64 (xo : Int)) := fun z => (z.ext.cell (p := ⟨w.heap.size, 0, none⟩) hlt1).trans d0
  have q1 : ∀ z : LaterB w1.heap.size w1.drew, z.val.cell? ⟨w.heap.size, 1, none⟩ = some (.int .i64 (xs : Int)) := fun z => (z.ext.cell (p := ⟨w.heap.size, 1, none⟩) hlt1).trans d1
  refine q_pick (l := ?seg1) ?hseg1 ?_
  case hseg1 => simp only [pick, List.getElem?_toArray, List.getElem?_cons_succ, List.getElem?_cons_zero]; rfl
  repeat (go_big_quiet_step (fail))
  refine wpQuiet_nil ?_
  clear q0 q1
  refine qpair_any (S := [7, 12, 14, 16]) (d1 := 13) (d2 := 17) (e1 := 5) (e2 := 6) (v1 := frV ((xo : Int) + (xs : Int)) n) (v2 := frV (xo : Int) p) (cs := #[.int .i64 0, .int .i64 0, .bool false]) (ty := 50) (w0 := w1.drew) ⟨?_, ?_, ?_, ?_, by decide, by decide, by decide, by decide, by decide, rfl, ?_⟩
  · refine stp_call (vs := #[.pointer (some ⟨g, 0, none⟩), .int .i64 ((xo : Int) + (xs : Int))]) Tryz.call70 rfl (fun a ha => ?_) fun W hW => ?_
    · show [a.tmps.getD 7 undef, a.tmps.getD 12 undef] = _
      rw [ha 7 (by decide), ha 12 (by decide)]
      rfl
    · refine (bc_at (became_below BC1.out hW) hbase hl _ ⟨by omega, by omega⟩ n y1).mono ?_
      rintro e w' ⟨h1, h2, h3⟩
      exact ⟨h1, h3⟩
  · refine stp_call (vs := #[.pointer (some ⟨g, 0, none⟩), .int .i64 (xo : Int)]) Tryz.call71 rfl (fun a ha => ?_) fun W hW => ?_
    · show [a.tmps.getD 14 undef, a.tmps.getD 16 undef] = _
      rw [ha 14 (by decide), ha 16 (by decide)]
      rfl
    · refine (bc_ahead (became_below BC1.out hW) hbase hl _ ⟨by omega, by omega⟩ p y2).mono ?_
      rintro e w' ⟨h1, h2, h3⟩
      exact ⟨h1, h3⟩
  · exact stp_alloc rfl rfl (fun _ => rfl) fun ρ w => alloc_blk ρ _ rfl w
  · exact stp_alloc rfl rfl (fun _ => rfl) fun ρ w => alloc_blk ρ _ rfl w
  intro p1 p2 w5 k1 k2 kne m1 m2 hb5
  rw [f1, f2]
  unfold ptrV
  refine q_fin (t := ?tl1) ?htl1 ?_
  case htl1 => simp only [pick, List.getElem?_toArray, List.getElem?_cons_succ, List.getElem?_cons_zero]; rfl
  simp only [Act.put, List.setIfInBounds_toArray, List.set_cons_zero, List.set_cons_succ]
  refine wpl_blk (gx := p1) (p := no) (q := (nz : Int)) (r := false) rfl rfl rfl rfl rfl m1 ?_
  intro w6 n6 k6 b6
  refine wpl_blk (gx := p2) (p := (wo : Int)) (q := (pz : Int)) (r := false) rfl rfl rfl rfl rfl ((k6 p2 (Ne.symm kne)).trans m2) ?_
  intro w7 n7 k7 b7
  have hb7 : Below w1.heap.size w1.drew w7 := (hb5.trans (b6 _ k1)).trans (b7 _ k2)
  have n6 := (k7 p1 kne).trans n6
  have nb := (hb7.block w.heap.size hlt1).trans N1.out
  have BC7 := Lib.hid (became_below BC1.out hb7)
  have h1 := bc_out BC7.out hbase hl ((xo : Int) + (xs : Int)) n hn e1
  rw [f1] at h1
  have H1 := Lib.hid h1
  have K1 := Lib.hid k1
  have K2 := Lib.hid k2
  have KN := Lib.hid kne
  clear h1 hb5 hb7 k6 k7 b6 b7 m1 m2 d0 d1 d2 k1 k2 kne
  have NB := Lib.hid nb
  have N6 := Lib.hid n6
  have N7 := Lib.hid n7
  obtain ⟨⟨c0, c1, c2⟩, _⟩ := blk_cells n6
  clear nb n6 n7
  have hlt6 := heap_lt' N6.out
  go_wp2_with fail
  refine H1.out.mono ?_
  clear c0 c1 c2 hlt6
  rintro e w8 ⟨rfl, hB8, hL8⟩
  have n6 := hL8 _ _ N6.out
  have n7 := hL8 _ _ N7.out
  have nb := hL8 _ _ NB.out
  have h2 := bc_out hB8 hbase (by omega) (xo : Int) p hp e2
  rw [f2] at h2
  have H2 := Lib.hid h2
  clear N6 N7 NB BC7 BC1 h2 hL8 hB8 H1
  have NB := Lib.hid nb
  have N6 := Lib.hid n6
  have N7 := Lib.hid n7
  obtain ⟨⟨c0, c1, c2⟩, _⟩ := blk_cells n7
  clear nb n6 n7
  have hlt7 := heap_lt' N7.out
  go_wp2_with fail
  refine H2.out.mono ?_
  clear c0 c1 c2 hlt7
  rintro e w9 ⟨rfl, hB9, hL9⟩
  have n6 := hL9 _ _ N6.out
  have n7 := hL9 _ _ N7.out
  have nb := hL9 _ _ NB.out
  have h3 := bc_set hB9 hbase (by omega) wo ws false (by omega) (by omega) e3
  rw [hwe, Int.natCast_add, Int.natCast_add] at h3
  have H3 := Lib.hid h3
  clear N6 N7 NB h3 hL9 hB9 H2
  have N7 := Lib.hid n7
  obtain ⟨⟨c0, c1, c2⟩, _⟩ := blk_cells n7
  obtain ⟨⟨d0, d1, d2⟩, _⟩ := blk_cells nb
  obtain ⟨⟨g0, g1, g2⟩, _⟩ := blk_cells n6
  have hlt7 := heap_lt' n7
  have hlt6 := heap_lt' n6
  have hltb := heap_lt' nb
  clear nb n6 n7
  go_wp2_with fail
  refine H3.out.mono ?_
  clear c0 c1 c2 d0 d1 d2 g0 g1 g2 hlt7 hlt6 hltb
  rintro e w10 ⟨rfl, hB10, hL10⟩
  have n7 := hL10 _ _ N7.out
  have h4 := bc_put hB10 hbase (by omega) wo (by omega) e4
  have H4 := Lib.hid h4
  clear N7 h4 hL10 hB10 H3
  obtain ⟨⟨c0, c1, c2⟩, _⟩ := blk_cells n7
  have hlt7 := heap_lt' n7
  clear n7
  go_wp2_with fail
  refine H4.out.mono ?_
  clear c0 c1 c2 hlt7
  rintro e w11 ⟨rfl, hB11, hL11⟩
  have HB := Lib.hid hB11
  clear hB11 hL11 H4
  go_wp2
  go_ret
  exact ⟨rfl, (HH.out _ HB.out).2⟩
theorem bc_give {w1 : World} (h : Became 82 g base cap A bs w w1) (hbase : base ≤ 4611686018427387904) (hcap : cap ≤ 16384) (hc : H.cap = cap) (hR : Rt bs H) {A1 B1 : List Bk} {p n : Option Bk} {xo xs : Nat}
    (hb : H.blks = (A1 ++ p.toList) ++ ⟨xo, xs, true⟩ :: (n.toList ++ B1)) (hN : Near A1 p n B1) :
    Calls Tryz.prog 55 #[.pointer (some ⟨g, 0, none⟩), .agg #[.int .i64 (xo : Int), .int .i64 (xs : Int), .bool true]] w1 fun e w2 => e = .returned .nilIface ∧ ∃ out, Became 82 g base cap A out w w2 ∧ Rt out (H.give (A1 ++ p.toList).length) ∧
      ∀ z ∈ H.blks, z.used = true → z ≠ ⟨xo, xs, true⟩ → ∀ i, Pay z i → out[i]? = bs[i]? := by
  obtain ⟨A', c', a, tc, k⟩ := h
  refine (giveBack_any a hbase hcap hc hR hb hN).mono ?_
  rintro e w2 ⟨h1, out, h2, h3⟩
  exact ⟨h1, out, Became.trans a tc k h2, h3⟩
end
end Go.Proofs.YtbldlidpapdkbaaGreat

/- The program's cut (layer 12): what is left of a used block is given back, if it can be a block. -/
namespace Go.Proofs.YtbldlidpapdkbaaGreat
open Go.RowKit

section
variable {w w1 : World} {g base cap : Nat} {A : Option Addr} {bs : List UInt8} {H : Hp}
set_option maxRecDepth 100000 in
set_option maxHeartbeats 2000000 in
theorem cut_small (h : Became 82 g base cap A bs w w1) (hR : Rt bs H) {A0 B0 : List Bk} {xo xs s : Nat} (hb : H.blks = A0 ++ ⟨xo, xs, true⟩ :: B0) (hxo : xo ≤ 16384) (hxs : xs ≤ 16384) (hle : s ≤ xs) (hlt : xs < s + 32) :
    Calls Tryz.prog 88 #[.pointer (some ⟨g, 0, none⟩), .agg #[.int .i64 (xo : Int), .int .i64 (xs : Int), .bool true], .int .i64 (s : Int)] w1 fun e w2 => e = .returned .nilIface ∧ ∃ out, Became 82 g base cap A out w w2 ∧ Rt out (H.cut A0.length s) ∧
      Held H bs (H.cut A0.length s) out ∧ ∀ z ∈ H.blks, z.used = true → z.off ≠ xo → ∀ i, Pay z i → out[i]? = bs[i]? := by
  obtain ⟨hR2, hH⟩ := hR.uncut hb hlt
  have HRH := Lib.hid (show Rt bs (H.cut A0.length s) ∧ Held H bs (H.cut A0.length s) bs ∧ ∀ z ∈ H.blks, z.used = true → z.off ≠ xo → ∀ i, Pay z i → bs[i]? = bs[i]? from ⟨hR2, hH, fun _ _ _ _ _ _ => rfl⟩)
  obtain ⟨wa, hwa⟩ : ∃ wa, w1.alloc (.cells #[.int .i64 (xo : Int), .int .i64 (xs : Int), .bool true] 50) = wa := ⟨_, rfl⟩
  have na : wa.heap[w1.heap.size]? = some (.cells #[.int .i64 (xo : Int), .int .i64 (xs : Int), .bool true] 50 (0, 0)) := by rw [← hwa]; exact heap_alloc_new w1 _
  have BCa := became_alloc h (.cells #[.int .i64 (xo : Int), .int .i64 (xs : Int), .bool true] 50)
  rw [hwa] at BCa
  obtain ⟨wb, hwb⟩ : ∃ wb, wa.alloc (.cells #[.int .i64 ((xo : Int) + (s : Int)), .int .i64 ((xs : Int) - (s : Int)), .bool true] 50) = wb := ⟨_, rfl⟩
  have nb : wb.heap[wa.heap.size]? = some (.cells #[.int .i64 ((xo : Int) + (s : Int)), .int .i64 ((xs : Int) - (s : Int)), .bool true] 50 (0, 0)) := by rw [← hwb]; exact heap_alloc_new wa _
  have BCb := became_alloc BCa (.cells #[.int .i64 ((xo : Int) + (s : Int)), .int .i64 ((xs : Int) - (s : Int)), .bool true] 50)
  rw [hwb] at BCb
  have HB := Lib.hid BCb
  have HWA := Lib.hid hwa
  have HWB := Lib.hid hwb
  obtain ⟨⟨c0, c1, c2⟩, _⟩ := blk_cells na
  obtain ⟨⟨d0, d1, d2⟩, _⟩ := blk_cells nb
  have hlta := heap_lt' na
  have hltb := heap_lt' nb
  clear hR2 hH hR hwa hwb BCa BCb h na nb hb
  go_enter Tryz.func88, Tryz.ntmps88
  go_wp2_with (first | (rw [HWA.out]) | (rw [HWB.out]) | fail)
  go_ret
  exact ⟨rfl, bs, HB.out, HRH.out.1, HRH.out.2.1, fun _ _ _ _ _ _ => rfl⟩
set_option maxRecDepth 100000 in
set_option maxHeartbeats 2000000 in
theorem cut_big (h : Became 82 g base cap A bs w w1) (hbase : base ≤ 4611686018427387904) (hcap : cap ≤ 16384) (hc : H.cap = cap) (hR : Rt bs H) {A0 B0 : List Bk} {xo xs s : Nat} (hb : H.blks = A0 ++ ⟨xo, xs, true⟩ :: B0) (hs : isSz (s : Int) = true) (hle : s + 32 ≤ xs) :
    Calls Tryz.prog 88 #[.pointer (some ⟨g, 0, none⟩), .agg #[.int .i64 (xo : Int), .int .i64 (xs : Int), .bool true], .int .i64 (s : Int)] w1 fun e w2 => e = .returned .nilIface ∧ ∃ out, Became 82 g base cap A out w w2 ∧ Rt out (H.cut A0.length s) ∧
      Held H bs (H.cut A0.length s) out ∧ ∀ z ∈ H.blks, z.used = true → z.off ≠ xo → ∀ i, Pay z i → out[i]? = bs[i]? := by
  obtain ⟨b1, b2, H1, A1, B1, p, n, e1, e2, l1, l2, hc1, hR1, hb1, hN, hcut, hP⟩ := hR.cutting (by omega) hb hs hle
  obtain ⟨hl, hbd⟩ := hR.bound (by omega)
  have hx := hbd ⟨xo, xs, true⟩ (by rw [hb]; simp)
  dsimp only at hx
  have hq := (isSz_iff _).1 hs
  have HG := Lib.hid (fun w3 (h3 : Became 82 g base cap A b2 w w3) => bc_give h3 hbase hcap (by omega) hR1 hb1 hN)
  rw [hcut] at HG
  have HP := Lib.hid hP
  obtain ⟨wa, hwa⟩ : ∃ wa, w1.alloc (.cells #[.int .i64 (xo : Int), .int .i64 (xs : Int), .bool true] 50) = wa := ⟨_, rfl⟩
  have na : wa.heap[w1.heap.size]? = some (.cells #[.int .i64 (xo : Int), .int .i64 (xs : Int), .bool true] 50 (0, 0)) := by rw [← hwa]; exact heap_alloc_new w1 _
  have BCa := became_alloc h (.cells #[.int .i64 (xo : Int), .int .i64 (xs : Int), .bool true] 50)
  rw [hwa] at BCa
  obtain ⟨wb, hwb⟩ : ∃ wb, wa.alloc (.cells #[.int .i64 ((xo : Int) + (s : Int)), .int .i64 ((xs : Int) - (s : Int)), .bool true] 50) = wb := ⟨_, rfl⟩
  have nb : wb.heap[wa.heap.size]? = some (.cells #[.int .i64 ((xo : Int) + (s : Int)), .int .i64 ((xs : Int) - (s : Int)), .bool true] 50 (0, 0)) := by rw [← hwb]; exact heap_alloc_new wa _
  have nab : wb.heap[w1.heap.size]? = some (.cells #[.int .i64 (xo : Int), .int .i64 (xs : Int), .bool true] 50 (0, 0)) := by rw [← hwb]; exact (heap_alloc_old _ _ (heap_lt na)).trans na
  have BCb := became_alloc BCa (.cells #[.int .i64 ((xo : Int) + (s : Int)), .int .i64 ((xs : Int) - (s : Int)), .bool true] 50)
  rw [hwb] at BCb
  have hsz : w.heap.size ≤ w1.heap.size := by obtain ⟨_, _, _, ht, _⟩ := h; exact ht.size
  obtain ⟨wc, hwc⟩ : ∃ wc, wb.setCell ⟨w1.heap.size, 1, none⟩ (.int .i64 (s : Int)) = wc := ⟨_, rfl⟩
  have nac := heap_setCell_same wb w1.heap.size 1 _ _ (.int .i64 (s : Int)) nab
  have nbc := (Below.heap_setCell wb ⟨w1.heap.size, 1, none⟩ (.int .i64 (s : Int)) wa.heap.size (fun e => by have := heap_lt na; have e : wa.heap.size = w1.heap.size := e; omega)).trans nb
  have BCc := became_loc BCb nab hsz 1 (.int .i64 (s : Int))
  rw [hwc] at nac nbc BCc
  have nac : wc.heap[w1.heap.size]? = some (.cells #[.int .i64 (xo : Int), .int .i64 (s : Int), .bool true] 50 (0, 0)) := nac
  have h1 := bc_set BCc hbase hl xo s true (by omega) (by omega) e1
  have H1' := Lib.hid h1
  have E2 := Lib.hid e2
  have NBC := Lib.hid nbc
  have HWA := Lib.hid hwa
  have HWB := Lib.hid hwb
  have HWC := Lib.hid hwc
  have NAC := Lib.hid nac
  obtain ⟨⟨d0, d1, d2⟩, _⟩ := blk_cells nb
  obtain ⟨⟨u0, u1, u2⟩, _⟩ := blk_cells na
  obtain ⟨⟨c0, c1, c2⟩, f0, f1, f2⟩ := blk_cells nab
  obtain ⟨⟨g0, g1, g2⟩, _⟩ := blk_cells nac
  have hlta := heap_lt' na
  have hltb := heap_lt' nb
  have hltc := heap_lt' nab
  clear hR hwa hwb hwc BCa BCb BCc h na nb nab nac nbc hb hR1 hb1 hN hcut hP h1 e1 e2 hbd
  go_enter Tryz.func88, Tryz.ntmps88
  go_wp2_with (first | (rw [HWA.out]) | (rw [HWB.out]) | (rw [HWC.out]) | fail)
  refine H1'.out.mono ?_
  clear d0 d1 d2 u0 u1 u2 c0 c1 c2 f0 f1 f2 g0 g1 g2 hlta hltb hltc
  rintro e wd ⟨rfl, hB1, hL1⟩
  have nb := hL1 _ _ NBC.out
  have h2 := bc_set hB1 hbase (by omega) (xo + s) (xs - s) true (by omega) (by omega) E2.out
  have en : ((xo + s : Nat) : Int) = (xo : Int) + (s : Int) := Int.natCast_add _ _
  have em : ((xs - s : Nat) : Int) = (xs : Int) - (s : Int) := Int.ofNat_sub (by omega)
  rw [en, em] at h2
  have H2 := Lib.hid h2
  have EN := Lib.hid en
  have EM := Lib.hid em
  have NB := Lib.hid nb
  clear hB1 hL1 NBC NAC HWA HWB HWC H1' h2 E2 en em
  obtain ⟨⟨d0, d1, d2⟩, _⟩ := blk_cells nb
  have hltb := heap_lt' nb
  clear nb
  go_wp2_with fail
  refine H2.out.mono ?_
  clear d0 d1 d2 hltb
  rintro e we ⟨rfl, hB2, hL2⟩
  have nb := hL2 _ _ NB.out
  have h3 := HG.out we hB2
  rw [EN.out, EM.out] at h3
  have H3 := Lib.hid h3
  clear hB2 hL2 NB H2 h3 HG
  obtain ⟨⟨d0, d1, d2⟩, _⟩ := blk_cells nb
  have hltb := heap_lt' nb
  clear nb
  go_wp2_with fail
  refine H3.out.mono ?_
  clear d0 d1 d2 hltb
  rintro e wf ⟨rfl, out, hB, hR, hP⟩
  have HB := Lib.hid hB
  have HR := Lib.hid hR
  have HPP := Lib.hid (HP.out out hP)
  clear hB hR hP H3 HP
  go_wp2
  go_ret
  exact ⟨rfl, out, HB.out, HR.out, HPP.out.1, HPP.out.2⟩
theorem cut_any (h : Became 82 g base cap A bs w w1) (hbase : base ≤ 4611686018427387904) (hcap : cap ≤ 16384) (hc : H.cap = cap) (hR : Rt bs H) {A0 B0 : List Bk} {xo xs s : Nat} (hb : H.blks = A0 ++ ⟨xo, xs, true⟩ :: B0) (hs : isSz (s : Int) = true) (hle : s ≤ xs) :
    Calls Tryz.prog 88 #[.pointer (some ⟨g, 0, none⟩), .agg #[.int .i64 (xo : Int), .int .i64 (xs : Int), .bool true], .int .i64 (s : Int)] w1 fun e w2 => e = .returned .nilIface ∧ ∃ out, Became 82 g base cap A out w w2 ∧ Rt out (H.cut A0.length s) ∧
      Held H bs (H.cut A0.length s) out ∧ ∀ z ∈ H.blks, z.used = true → z.off ≠ xo → ∀ i, Pay z i → out[i]? = bs[i]? := by
  obtain ⟨hl, hbd⟩ := hR.bound (by omega)
  have hx := hbd ⟨xo, xs, true⟩ (by rw [hb]; simp)
  dsimp only at hx
  by_cases hlt : xs < s + 32
  · exact cut_small h hR hb (by omega) (by omega) hle hlt
  · exact cut_big h hbase hcap hc hR hb hs (by omega)
end
end Go.Proofs.YtbldlidpapdkbaaGreat

/- The contracts of the program's Used, Give, Trim (layer 12). -/
namespace Go.Proofs.YtbldlidpapdkbaaGreat
open Go.RowKit

theorem used_hit {l : List Bk} {e : Nat} (ht : tile 184 l e) {j : Nat} {x : Bk} {o : Int} (hx : l[j]? = some x) (ho : (x.off : Int) = o) (hu : x.used = true) : (usedB l o).map (bkAt l) = some x := by
  have hxm := List.mem_of_getElem? hx
  obtain ⟨i, h1, h2, h3⟩ := atB_of ht hxm
  unfold usedB
  rw [← ho, h1]
  dsimp only
  rw [h3, hu, if_pos rfl, Option.map_some, h3]
theorem used_miss {l : List Bk} {o : Int} (h : ∀ (i : Nat) (x : Bk), l[i]? = some x → ¬((x.off : Int) = o ∧ x.used = true)) : usedB l o = none := by
  unfold usedB
  cases hi : atB o l with
  | none => rfl
  | some i =>
    obtain ⟨x, h1, h2⟩ := atB_some hi
    dsimp only
    rw [if_neg]
    intro hu
    rw [bkAt_of h1] at hu
    exact h i x h1 ⟨h2, hu⟩
theorem used_at {l : List Bk} {o : Int} {i : Nat} (h : usedB l o = some i) : i < l.length ∧ ((bkAt l i).off : Int) = o ∧ (bkAt l i).used = true := by
  unfold usedB at h
  cases hi : atB o l with
  | none => rw [hi] at h; cases h
  | some k =>
    rw [hi] at h
    dsimp only at h
    split at h
    · rename_i hu
      injection h with h
      subst h
      obtain ⟨x, h1, h2⟩ := atB_some hi
      exact ⟨lst_lt h1, by rw [bkAt_of h1]; exact h2, hu⟩
    · cases h
theorem below_in {B : Nat} {w w' : World} (h : Below B w w') {b j : Nat} {v : Value} (hc : w.cell? ⟨b, j, none⟩ = some v) (hb : b < B) : w'.cell? ⟨b, j, none⟩ = some v :=
  (h.cell (p := ⟨b, j, none⟩) hb).trans hc

set_option maxRecDepth 100000 in
set_option maxHeartbeats 1000000 in
theorem usedK : UsedK := by
  intro w g base cap c A bs H o h hb hcap hc hR ho
  obtain ⟨l, hl⟩ : ∃ l, H.blks = l := ⟨_, rfl⟩
  rw [hl]
  have hwk := hR.walk
  rw [hl] at hwk
  have ht := (walkB_tiles hwk).2.1
  have hbl := (hR.bound (by omega)).1
  have hll := walkB_len hwk
  obtain ⟨y, hy⟩ : ∃ y, (usedB l o).map (bkAt l) = y := ⟨_, rfl⟩
  rw [hy]
  have HHIT : Hid (∀ (j : Nat) (x : Bk), l[j]? = some x → (x.off : Int) = o → x.used = true → some x = y) := fun j x hx ho hu => by rw [← hy]; exact (used_hit ht hx ho hu).symm
  have HMISS : Hid ((∀ (i : Nat) (x : Bk), l[i]? = some x → ¬((x.off : Int) = o ∧ x.used = true)) → none = y) := fun hm => by rw [← hy, used_miss hm]; rfl
  obtain ⟨w1, hw1⟩ : ∃ w1, w.alloc (.cells #[.int .i64 0, .int .i64 0, .bool false] 50) = w1 := ⟨_, rfl⟩
  have hb1 : Below w.heap.size w w1 := by rw [← hw1]; exact (Below.refl _ _).alloc (Nat.le_refl _) _
  have hn1 : w1.heap[w.heap.size]? = some (.cells #[.int .i64 0, .int .i64 0, .bool false] 50 (0, 0)) := by rw [← hw1]; exact heap_alloc_new w _
  have hW := walkC w1 g base cap c A bs _ (h.below hb1) hb hbl hwk
  dsimp only [BlksTold, Option.isSome, Option.getD, errV] at hW
  have HW := Lib.hid hW
  have HW1 := Lib.hid hw1
  have HB1 := Lib.hid hb1
  have HN1 := Lib.hid hn1
  clear hW hw1 hb1 hn1 h hR hwk ht hy hl hb hcap hc
  go_enter Tryz.func54, Tryz.ntmps54
  go_wp2_with fail
  rw [HW1.out]
  with_reducible refine HW.out.mono ?_
  rintro e w2 ⟨A2, c2, rfl, ho2, hb2⟩
  have hcl : l.length ≤ c2 ∧ c2 ≤ 9223372036854775807 := by
    rcases ho2.2 with ⟨h', h0⟩ | ⟨_, _, _, h', _, _, h1, h2, _⟩
    · injection h' with _ _ e; rw [h0, e]; omega
    · injection h' with _ _ e; unfold maxLen at h2; omega
  have HR := Lib.hid (BkRd.of_own ho2)
  have HB2 := Lib.hid (HB1.out.trans (hb2.mono HB1.out.size))
  have HN2 := Lib.hid ((hb2.block w.heap.size (heap_lt HN1.out)).trans HN1.out)
  clear ho2 hb2 HW HN1 HB1
  go_wp2
  go_loopw [21] (fun t wr => ∃ j : Nat, t = .int .i64 (j : Int) ∧ j ≤ l.length ∧ (∀ (i : Nat) (x : Bk), i < j → l[i]? = some x → ¬((x.off : Int) = o ∧ x.used = true)) ∧ Below w2.heap.size w2 wr) (fun t _ => l.length - (intOf t).toNat)
  case atStart => exact ⟨0, rfl, Nat.zero_le _, fun i x hi => absurd hi (Nat.not_lt_zero _), Below.refl _ _⟩
  case round =>
    obtain ⟨j, rfl, hj, hno, hbe⟩ := hrel
    have nl := (hbe.block w.heap.size (heap_lt HN2.out)).trans HN2.out
    have hfin := HB2.out.trans (hbe.mono HB2.out.size)
    by_cases hlt : j < l.length
    · obtain ⟨x, hx⟩ : ∃ x, l[j]? = some x := ⟨l[j], List.getElem?_eq_getElem hlt⟩
      obtain ⟨b2, q, rfl, hbb, hcl2⟩ := HR.out (by omega)
      obtain ⟨p0, p1, p2⟩ := hcl2 j x hx
      have r0 := below_in hbe p0 hbb
      have r1 := below_in hbe p1 hbb
      have r2 := below_in hbe p2 hbb
      have HIT := Lib.hid (HHIT.out j x hx)
      have HNO : Hid (¬((x.off : Int) = o ∧ x.used = true) → ∀ (i : Nat) (z : Bk), i < j + 1 → l[i]? = some z → ¬((z.off : Int) = o ∧ z.used = true)) := fun hx2 i z hi hz => by
        by_cases hij : i < j
        · exact hno i z hij hz
        · obtain rfl : i = j := by omega
          rw [hx] at hz
          injection hz with hz
          rw [← hz]
          exact hx2
      obtain ⟨xo, xs, xu⟩ := x
      dsimp only at p0 p1 p2 r0 r1 r2
      obtain ⟨w4, hw4⟩ : ∃ w4, wr.alloc (.cells #[.int .i64 (xo : Int), .int .i64 (xs : Int), .bool xu] 50) = w4 := ⟨_, rfl⟩
      have hb4 : Below w2.heap.size w2 w4 := by rw [← hw4]; exact hbe.alloc hbe.size _
      have n4 : w4.heap[wr.heap.size]? = some (.cells #[.int .i64 (xo : Int), .int .i64 (xs : Int), .bool xu] 50 (0, 0)) := by rw [← hw4]; exact heap_alloc_new wr _
      have nl4 : w4.heap[w.heap.size]? = some (.cells #[.int .i64 0, .int .i64 0, .bool false] 50 (0, 0)) := by rw [← hw4]; exact (heap_alloc_old _ _ (heap_lt nl)).trans nl
      have hf4 : Below w.heap.size w w4 := by rw [← hw4]; exact hfin.alloc hfin.size _
      obtain ⟨⟨d0, d1, d2⟩, _⟩ := blk_cells n4
      have HW4 := Lib.hid hw4
      have HB4 := Lib.hid hb4
      have HF4 := Lib.hid hf4
      have NL4 := Lib.hid nl4
      have HNEQ := Lib.hid (show wr.heap.size ≠ w.heap.size from fun e => by have := heap_lt nl; omega)
      clear hx hbe p0 p1 p2 hb4 n4 hw4 hcl2 hno nl nl4 hf4 hfin
      by_cases hxo : (xo : Int) = o
      · have e1 : ((xo : Int) == o) = true := by rw [beq_iff_eq]; exact hxo
        cases xu with
        | true =>
          obtain rfl := HIT.out hxo rfl
          obtain ⟨⟨c0, c1, c2⟩, f0, f1, f2⟩ := blk_cells NL4.out
          have hlt4 := heap_lt' NL4.out
          clear hxo HHIT HMISS HIT HNO
          go_wp2_with (first | (rw [HW4.out]) | fail)
          (try simp only [Exit.inBlock, Exit.then])
          refine blk_ret (x := .nilIface) (g := w.heap.size) (o := (xo : Int)) (s := (xs : Int)) (b := true) Tryz.results54 ?_ ?_ ?_ ?_ ?_
          · rfl
          · rfl
          · rfl
          · exact blk_set NL4.out _ _ _
          · exact ⟨rfl, ((HF4.out.setCell (Nat.le_refl _) _).setCell (Nat.le_refl _) _).setCell (Nat.le_refl _) _⟩
        | false =>
          have HNO2 := Lib.hid (HNO.out (fun hh => by cases hh.2))
          clear hxo HHIT HMISS HIT HNO
          go_wp2_with (first | (rw [HW4.out]) | fail)
          go_roundw
          case rel => exact ⟨j + 1, by go_num, by omega, HNO2.out, HB4.out⟩
          case measure => simp only [intOf]; omega
      · have e1 : ((xo : Int) == o) = false := by rw [beq_eq_false_iff_ne]; exact hxo
        have HNO2 := Lib.hid (HNO.out (fun hh => hxo hh.1))
        clear hxo HHIT HMISS HIT HNO
        go_wp2_with (first | (rw [HW4.out]) | fail)
        go_roundw
        case rel => exact ⟨j + 1, by go_num, by omega, HNO2.out, HB4.out⟩
        case measure => simp only [intOf]; omega
    · obtain rfl := HMISS.out (fun i x hx => hno i x (by have := lst_lt hx; omega) hx)
      have NL := Lib.hid nl
      have HF := Lib.hid hfin
      obtain ⟨⟨c0, c1, c2⟩, f0, f1, f2⟩ := blk_cells NL.out
      have hlt4 := heap_lt' NL.out
      clear hno hbe nl hfin HHIT HMISS
      go_wp2
      (try simp only [Exit.inBlock, Exit.then])
      refine blk_ret (x := .iface 55 (.int .i64 3)) (g := w.heap.size) (o := 0) (s := 0) (b := false) Tryz.results54 ?_ ?_ ?_ ?_ ?_
      · rfl
      · rfl
      · rfl
      · exact blk_set NL.out _ _ _
      · exact ⟨rfl, ((HF.out.setCell (Nat.le_refl _) _).setCell (Nat.le_refl _) _).setCell (Nat.le_refl _) _⟩

section
variable {w : World} {g base cap c : Nat} {A : Option Addr} {bs : List UInt8} {H : Hp}
end
end Go.Proofs.YtbldlidpapdkbaaGreat
