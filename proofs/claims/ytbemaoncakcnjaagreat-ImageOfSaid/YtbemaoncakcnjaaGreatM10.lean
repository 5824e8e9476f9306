/- Texts of mine, joined: TakM5, TakM6, Pair, Spec12, Tak1, Tak2, Tak3, Tak4, Tak5, Law12a, Law12b. -/
import Derived.Test.YtbemaoncakcnjaaGreatM9

/- What giving back, cutting and taking leave of what is held, plain. No program in sight. -/
namespace Go.Proofs.YtbemaoncakcnjaaGreat

section
variable {bs : List UInt8} {H : Hp}
theorem Rt.mid (h : Rt bs H) (hc : H.cap ≤ 16384) {A B : List Bk} {x : Bk} (hb : H.blks = A ++ x :: B) : (∀ y ∈ A, 32 ≤ y.size ∧ y.off + y.size ≤ x.off) ∧ (∀ y ∈ B, x.off + x.size ≤ y.off) ∧ isSz (x.size : Int) = true ∧ 184 ≤ x.off ∧ 32 ≤ x.size ∧ x.off + x.size ≤ bs.length := by
  have hM := h.md hc
  have ht := hM.tl
  rw [hb] at ht
  obtain ⟨_, t2, _, _, t5, t6, tA, tB⟩ := tile_mid ht
  have hf := hM.facts
  have hx := hf x (by rw [hb]; simp)
  exact ⟨fun y hy => ⟨(hf y (by rw [hb]; simp [hy])).2, tA y hy⟩, tB, t2, t5, hx.2, t6⟩

/-- What is held behind Give. -/
theorem Rt.gave (h : Rt bs H) (hc : H.cap ≤ 16384) {A1 B1 : List Bk} {p n : Option Bk} {x : Bk} (hb : H.blks = (A1 ++ p.toList) ++ x :: (n.toList ++ B1)) (hN : Near A1 p n B1) {out : List UInt8}
    (hP : ∀ z ∈ H.blks, z.used = true → z ≠ x → ∀ i, Pay z i → out[i]? = bs[i]?) : Held H bs (H.give (A1 ++ p.toList).length) out := by
  intro z hz hzu y hy hyu e i i1 i2 i3
  obtain ⟨tA, tB, _, _, t5, _⟩ := h.mid hc hb
  obtain ⟨gb, _⟩ := give_at hb hN
  by_cases hzx : z = x
  · exfalso
    subst hzx
    rw [gb] at hy
    rcases List.mem_append.1 hy with hy | hy
    · have := tA y (by simp [hy]); omega
    · rcases List.mem_cons.1 hy with rfl | hy
      · cases hyu
      · have := tB y (by simp [hy]); omega
  · exact hP z hz hzu hzx i ⟨i1, i2⟩

/-- What is cut off is given back. -/
theorem Rt.cutting (h : Rt bs H) (hc : H.cap ≤ 16384) {A B : List Bk} {xo xs : Nat} (hb : H.blks = A ++ ⟨xo, xs, true⟩ :: B) {s : Nat} (hs : isSz (s : Int) = true) (hle : s + 32 ≤ xs) :
    ∃ (b1 b2 : List UInt8) (H1 : Hp) (A1 B1 : List Bk) (p n : Option Bk), setB bs (xo : Int) (s : Int) true = some b1 ∧ setB b1 ((xo + s : Nat) : Int) ((xs - s : Nat) : Int) true = some b2 ∧ b1.length = bs.length ∧ b2.length = bs.length ∧
      H1.cap = H.cap ∧ Rt b2 H1 ∧ H1.blks = (A1 ++ p.toList) ++ ⟨xo + s, xs - s, true⟩ :: (n.toList ++ B1) ∧ Near A1 p n B1 ∧ H1.give (A1 ++ p.toList).length = H.cut A.length s ∧
      ∀ out : List UInt8, (∀ z ∈ H1.blks, z.used = true → z ≠ ⟨xo + s, xs - s, true⟩ → ∀ i, Pay z i → out[i]? = b2[i]?) → Held H bs (H.cut A.length s) out ∧ ∀ z ∈ H.blks, z.used = true → z.off ≠ xo → ∀ i, Pay z i → out[i]? = bs[i]? := by
  obtain ⟨s1, s2, l1, l2, hblk, hR1, P1, P2⟩ := h.cuts hc hb rfl hs hle
  obtain ⟨tA, tB, _, t4, t5, _⟩ := h.mid hc hb
  dsimp only at s1 s2 l1 l2 hblk hR1 P1 P2 tA tB t4 t5
  have q := (isSz_iff _).1 hs
  obtain ⟨H1, hH1⟩ : ∃ H1, ((H.use A.length true).size A.length s).put (A.length + 1) ⟨xo + s, xs - s, true⟩ = H1 := ⟨_, rfl⟩
  rw [hH1] at hblk hR1
  obtain ⟨A1, p, n, B1, eA, eB, hN⟩ := near_of (A ++ [⟨xo, s, true⟩]) B
  have hlen : (A1 ++ p.toList).length = A.length + 1 := by rw [← eA]; simp
  have hbx : bkAt H.blks A.length = ⟨xo, xs, true⟩ := by rw [hb, mid_at]
  have hcut : H1.give (A1 ++ p.toList).length = H.cut A.length s := by
    unfold Hp.cut
    rw [hbx]
    dsimp only
    rw [if_neg (by omega), hH1, hlen]
  have hb1 : H1.blks = (A1 ++ p.toList) ++ ⟨xo + s, xs - s, true⟩ :: (n.toList ++ B1) := by rw [hblk, eA, eB]
  refine ⟨_, _, H1, A1, B1, p, n, s1, s2, l1, l2, by rw [← hH1]; rfl, hR1, hb1, hN, hcut, fun out hP => ?_⟩
  have hz : ∀ z ∈ H.blks, z.used = true → z.off ≠ xo → ∀ i, Pay z i → out[i]? = bs[i]? := fun z hz hzu hzo i hi => by
    have hne : z ≠ ⟨xo, xs, true⟩ := fun e => hzo (by rw [e])
    rw [← P1 z hz hne i hi]
    rw [hb] at hz
    rcases List.mem_append.1 hz with hz | hz
    · have := tA z hz
      exact hP z (by rw [hblk]; simp [hz]) hzu (fun e => by rw [e] at this; dsimp only at this; omega) i hi
    · rcases List.mem_cons.1 hz with hz | hz
      · exact absurd hz hne
      · have := tB z hz
        exact hP z (by rw [hblk]; simp [hz]) hzu (fun e => by rw [e] at this; dsimp only at this; omega) i hi
  refine ⟨fun z hzm hzu y hy hyu e i i1 i2 i3 => ?_, hz⟩
  by_cases hzo : z.off = xo
  · rw [← hcut] at hy
    obtain ⟨gb, _⟩ := give_at hb1 hN
    rw [gb] at hy
    have hy1 : y = ⟨xo, s, true⟩ := by
      rcases List.mem_append.1 hy with hy | hy
      · have hy : y ∈ A ++ [⟨xo, s, true⟩] := by rw [eA]; simp [hy]
        rcases List.mem_append.1 hy with hy | hy
        · have := tA y hy; omega
        · simpa using hy
      · rcases List.mem_cons.1 hy with rfl | hy
        · cases hyu
        · have hy : y ∈ B := by rw [eB]; simp [hy]
          have := tB y hy; omega
    subst hy1
    dsimp only at i3 e
    rw [← P2 i ⟨by dsimp only; omega, i3⟩]
    exact hP ⟨xo, s, true⟩ (by rw [hblk]; simp) rfl (fun e => by injection e with e1 e2; omega) i ⟨by dsimp only; omega, i3⟩
  · exact hz z hzm hzu hzo i ⟨i1, i2⟩
/-- Nothing is cut off. -/
theorem Rt.uncut (h : Rt bs H) {A B : List Bk} {xo xs : Nat} (hb : H.blks = A ++ ⟨xo, xs, true⟩ :: B) {s : Nat} (hlt : xs < s + 32) : Rt bs (H.cut A.length s) ∧ Held H bs (H.cut A.length s) bs := by
  have hbx : bkAt H.blks A.length = ⟨xo, xs, true⟩ := by rw [hb, mid_at]
  have hcut : H.cut A.length s = H.use A.length true := by
    unfold Hp.cut
    rw [hbx]
    dsimp only
    rw [if_pos (by omega)]
  refine ⟨?_, fun _ _ _ _ _ _ _ _ _ _ _ => rfl⟩
  rw [hcut]
  refine h.congr ?_ rfl rfl
  rw [mid_use hb true, hb]
end
end Go.Proofs.YtbemaoncakcnjaaGreat

/- Taking, plain: a free block that is used and cut; a block at the end. No program in sight. -/
namespace Go.Proofs.YtbemaoncakcnjaaGreat

theorem use_use {H : Hp} {i : Nat} (hi : i < H.blks.length) : (H.use i true).use i true = H.use i true := by
  have e : bkAt (H.use i true).blks i = { bkAt H.blks i with used := true } := by
    show bkAt (H.blks.set i _) i = _
    rw [bkAt_set _ _ _ _ hi, if_pos rfl]
  unfold Hp.use at e ⊢
  dsimp only at e ⊢
  rw [e, List.set_set]
theorem cut_use {H : Hp} {i s : Nat} (hi : i < H.blks.length) : (H.use i true).cut i s = H.cut i s := by
  have e : bkAt (H.use i true).blks i = { bkAt H.blks i with used := true } := by
    show bkAt (H.blks.set i _) i = _
    rw [bkAt_set _ _ _ _ hi, if_pos rfl]
  unfold Hp.cut
  rw [e, use_use hi]

theorem tailF_snoc (r : List Bk) (y : Bk) : tailF (r ++ [y]) = if y.used = true then 0 else y.size := by
  have e : bkAt (r ++ [y]) ((r ++ [y]).length - 1) = y := by
    rw [show (r ++ [y]).length - 1 = r.length by simp]
    exact mid_at r y []
  unfold tailF
  rw [if_neg (by simp), e]
section
variable {bs : List UInt8} {H : Hp}
/-- The last block, if it is free. -/
theorem Rt.tail (h : Rt bs H) (hc : H.cap ≤ 16384) : ∃ A p, H.blks = A ++ p.toList ∧ (∀ y, p = some y → y.used = false) ∧ frO (aheadB bs (bs.length : Int)) = p ∧ tailF H.blks = sumB p.toList := by
  have hM := h.md hc
  have hb : H.blks = H.blks ++ [] := by simp
  rcases hM.ends hb (o := bs.length) h.lenE.symm with ⟨e1, e2⟩ | ⟨r, y, e1, e2⟩
  · refine ⟨[], none, e1, fun y hy => (by cases hy), ?_, ?_⟩
    · rw [e2]; rfl
    · rw [e1]; rfl
  · have e3 := tailF_snoc r y
    cases hu : y.used with
    | true =>
      rw [hu, if_pos rfl] at e3
      refine ⟨H.blks, none, by simp, fun y hy => (by cases hy), ?_, by rw [e1, e3]; rfl⟩
      rw [e2]
      show (if y.used = true then none else some y) = none
      rw [hu, if_pos rfl]
    | false =>
      rw [hu, if_neg (by simp)] at e3
      refine ⟨r, some y, e1, ?_, ?_, by rw [e1, e3]; simp [sumB]⟩
      · intro z hz
        cases hz
        exact hu
      rw [e2]
      show (if y.used = true then none else some y) = some y
      rw [hu, if_neg (by simp)]
theorem take_fnd {s i : Nat} (hf : H.find s = some i) : H.take s = (some (bkAt H.blks i).off, (H.out i).cut i s) := by
  unfold Hp.take
  rw [hf]
theorem take_full {s : Nat} (hf : H.find s = none) (hcap : H.cap < lenB H.blks + s - tailF H.blks) : H.take s = (none, H) := by
  unfold Hp.take
  rw [hf]
  dsimp only
  rw [if_pos hcap]
/-- The heap with a block at the end. -/
theorem take_end {s : Nat} (hf : H.find s = none) (hcap : ¬ H.cap < lenB H.blks + s - tailF H.blks) {A : List Bk} {p : Option Bk} (hb : H.blks = A ++ p.toList) (ht : tailF H.blks = sumB p.toList)
    (hp : ∀ y, p = some y → y.off = 184 + sumB A ∧ 0 < y.size) : ∃ H', H.take s = (some (184 + sumB A), H') ∧ H'.blks = A ++ [⟨184 + sumB A, s, true⟩] ∧ H'.lists = tkO H.lists p ∧ H'.cap = H.cap := by
  refine ⟨(H.take s).2, ?_, ?_, ?_, ?_⟩
  · have : (H.take s).1 = some (184 + sumB A) := by
      unfold Hp.take
      rw [hf]
      dsimp only
      rw [if_neg hcap]
      cases p with
      | none =>
        have e : tailF H.blks = 0 := ht
        rw [e, if_neg (by omega)]
        rw [hb]; simp [lenB]
      | some y =>
        have e : tailF H.blks = y.size := by rw [ht]; simp [sumB]
        obtain ⟨h1, h2⟩ := hp y rfl
        rw [e, if_pos h2]
        have e2 : H.blks.length - 1 = A.length := by rw [hb]; simp
        rw [e2, hb]
        show some (bkAt (A ++ y :: []) A.length).off = _
        rw [mid_at, h1]
    rw [← this]
  · unfold Hp.take
    rw [hf]
    dsimp only
    rw [if_neg hcap]
    cases p with
    | none =>
      have e : tailF H.blks = 0 := ht
      rw [e, if_neg (by omega)]
      have hb' : H.blks = A := by rw [hb]; simp
      show H.blks.take H.blks.length ++ _ :: H.blks.drop H.blks.length = _
      rw [List.take_length, List.drop_length, hb']
      rfl
    | some y =>
      have e : tailF H.blks = y.size := by rw [ht]; simp [sumB]
      obtain ⟨h1, h2⟩ := hp y rfl
      rw [e, if_pos h2]
      have e2 : H.blks.length - 1 = A.length := by rw [hb]; simp
      rw [e2]
      have hb2 : (H.out A.length).blks = A ++ y :: [] := hb
      have := mid_use (mid_size hb2 s) true
      show (((H.out A.length).size A.length s).use A.length true).blks = _
      rw [this, ← h1]
  · unfold Hp.take
    rw [hf]
    dsimp only
    rw [if_neg hcap]
    cases p with
    | none =>
      have e : tailF H.blks = 0 := ht
      rw [e, if_neg (by omega)]
      rfl
    | some y =>
      have e : tailF H.blks = y.size := by rw [ht]; simp [sumB]
      obtain ⟨h1, h2⟩ := hp y rfl
      rw [e, if_pos h2]
      have e2 : H.blks.length - 1 = A.length := by rw [hb]; simp
      rw [e2]
      show (H.out A.length).lists = _
      rw [mid_out hb]
      rfl
  · exact take_cap
/-- What is held behind a free block was used and cut. -/
theorem Rt.usedHeld (h : Rt bs H) (hc : H.cap ≤ 16384) {A B : List Bk} {xo xs : Nat} (hb : H.blks = A ++ ⟨xo, xs, false⟩ :: B) {b2 out : List UInt8} {H2 H3 : Hp} (hb2 : H2.blks = A ++ ⟨xo, xs, true⟩ :: B)
    (h1 : ∀ z ∈ H.blks, z.used = true → ∀ i, Pay z i → b2[i]? = bs[i]?) (h2 : ∀ z ∈ H2.blks, z.used = true → z.off ≠ xo → ∀ i, Pay z i → out[i]? = b2[i]?) : Held H bs H3 out := by
  intro z hz hzu y _ _ _ i i1 i2 _
  have hp : Pay z i := ⟨i1, i2⟩
  obtain ⟨tA, tB, _, t4, t5, _⟩ := h.mid hc hb
  dsimp only at tA tB t4 t5
  rw [← h1 z hz hzu i hp]
  rw [hb] at hz
  rcases List.mem_append.1 hz with hz | hz
  · have := tA z hz
    exact h2 z (by rw [hb2]; simp [hz]) hzu (by omega) i hp
  · rcases List.mem_cons.1 hz with hz | hz
    · rw [hz] at hzu; cases hzu
    · have := tB z hz
      exact h2 z (by rw [hb2]; simp [hz]) hzu (by omega) i hp
end
end Go.Proofs.YtbemaoncakcnjaaGreat

/- A region that draws its order, with two calls, one behind the other, and two new blocks made at any time among them; then a tail that comes in one order (genpair.py). -/
namespace Go.Proofs.YtbemaoncakcnjaaGreat
open Go.RowKit

/-- What may come up when, as a tree. -/
inductive QT where
  | fin : QT
  | one : Nat → QT → QT
  | two : Nat → QT → Nat → QT → QT
  | three : Nat → QT → Nat → QT → Nat → QT → QT

section
variable {P : Program} {ops : Array Oper} {Q : Exit → Act → World → Prop} {T : List Nat}
def qLen (T : List Nat) : QT → Nat
  | .fin => T.length
  | .one _ q => 1 + qLen T q
  | .two _ q _ _ => 1 + qLen T q
  | .three _ q _ _ _ _ => 1 + qLen T q
def planQ (ops : Array Oper) (T : List Nat) : Array Bool → QT → Bool
  | l, .fin => seqT ops l T
  | l, .one i q => Region.ready .any ops l == [i] && (!mv ops i && planQ ops T (l.setIfInBounds i true) q)
  | l, .two i q j r => Region.ready .any ops l == [i, j] && (!mv ops i && (!mv ops j && (qLen T q == qLen T r && (planQ ops T (l.setIfInBounds i true) q && planQ ops T (l.setIfInBounds j true) r))))
  | l, .three i q j r k s => Region.ready .any ops l == [i, j, k] && (!mv ops i && (!mv ops j && (!mv ops k && (qLen T q == qLen T r && (qLen T q == qLen T s && (planQ ops T (l.setIfInBounds i true) q && (planQ ops T (l.setIfInBounds j true) r && planQ ops T (l.setIfInBounds k true) s)))))))
def wpQ (P : Program) (ops : Array Oper) (Q : Exit → Act → World → Prop) (T : List Nat) (B : Nat) : QT → Act → World → Prop
  | .fin, a, w => wpList P ops Q (pick ops T) a w
  | .one i q, a, w => wpOp P ops Q i (fun a' w' => Below B w w' ∧ wpQ P ops Q T B q a' w') a w
  | .two i q j r, a, w => wpOp P ops Q i (fun a' w' => Below B w w' ∧ wpQ P ops Q T B q a' w') a w ∧ wpOp P ops Q j (fun a' w' => Below B w w' ∧ wpQ P ops Q T B r a' w') a w
  | .three i q j r k s, a, w => wpOp P ops Q i (fun a' w' => Below B w w' ∧ wpQ P ops Q T B q a' w') a w ∧ wpOp P ops Q j (fun a' w' => Below B w w' ∧ wpQ P ops Q T B r a' w') a w ∧ wpOp P ops Q k (fun a' w' => Below B w w' ∧ wpQ P ops Q T B s a' w') a w

theorem q_step {B n i : Nat} {q : QT} {l : Array Bool} {a : Act} {w : World} (hm : mv ops i = false)
    (ih : ∀ a w, wpQ P ops Q T B q a w → wpAnyT P ops Q (Below B w) T n (l.setIfInBounds i true) a w)
    (h : wpOp P ops Q i (fun a' w' => Below B w w' ∧ wpQ P ops Q T B q a' w') a w) :
    wpOp P ops Q i (fun a' w' => (i ∉ T → mv ops i = false → Below B w w') ∧ (mv ops i = true → w' = w) ∧ wpAnyT P ops Q (Below B w) T n (l.setIfInBounds i true) a' w') a w :=
  wpOp_mono (fun a' w' hh => by
    refine ⟨fun _ _ => hh.1, fun e => ?_, wpAnyT_less (fun w3 h4 => hh.1.trans h4) _ _ _ _ (ih a' w' hh.2)⟩
    rw [hm] at e
    cases e) h

theorem planQ_any (B : Nat) : ∀ (q : QT) (l : Array Bool) (a : Act) (w : World), planQ ops T l q = true → wpQ P ops Q T B q a w → wpAnyT P ops Q (Below B w) T (qLen T q) l a w
  | .fin, l, a, w, hc, h => seqT_any (fun _ h => h) T l a w (fun _ h => h) hc h
  | .one i q, l, a, w, hc, h => by
    simp only [planQ, Bool.and_eq_true, beq_iff_eq, Bool.not_eq_true'] at hc
    obtain ⟨h1, m1, c1⟩ := hc
    have k := q_step m1 (fun a w => planQ_any B q _ a w c1) h
    show wpAnyT P ops Q (Below B w) T (1 + qLen T q) l a w
    rw [Nat.add_comm]
    refine ⟨fun h0 => (by rw [h1] at h0; cases h0), fun j hj => ?_⟩
    rw [h1] at hj
    obtain rfl : j = i := by simpa using hj
    exact k
  | .two i q j r, l, a, w, hc, h => by
    simp only [planQ, Bool.and_eq_true, beq_iff_eq, Bool.not_eq_true'] at hc
    obtain ⟨h1, m1, m2, e2, c1, c2⟩ := hc
    have k1 := q_step m1 (fun a w => planQ_any B q _ a w c1) h.1
    have k2 := q_step m2 (fun a w => planQ_any B r _ a w c2) h.2
    rw [← e2] at k2
    show wpAnyT P ops Q (Below B w) T (1 + qLen T q) l a w
    rw [Nat.add_comm]
    refine ⟨fun h0 => (by rw [h1] at h0; cases h0), fun j' hj => ?_⟩
    rw [h1] at hj
    rcases List.mem_cons.1 hj with rfl | hj
    · exact k1
    · obtain rfl : j' = j := by simpa using hj
      exact k2
  | .three i q j r k s, l, a, w, hc, h => by
    simp only [planQ, Bool.and_eq_true, beq_iff_eq, Bool.not_eq_true'] at hc
    obtain ⟨h1, m1, m2, m3, e2, e3, c1, c2, c3⟩ := hc
    have k1 := q_step m1 (fun a w => planQ_any B q _ a w c1) h.1
    have k2 := q_step m2 (fun a w => planQ_any B r _ a w c2) h.2.1
    have k3 := q_step m3 (fun a w => planQ_any B s _ a w c3) h.2.2
    rw [← e2] at k2
    rw [← e3] at k3
    show wpAnyT P ops Q (Below B w) T (1 + qLen T q) l a w
    rw [Nat.add_comm]
    refine ⟨fun h0 => (by rw [h1] at h0; cases h0), fun j' hj => ?_⟩
    rw [h1] at hj
    rcases List.mem_cons.1 hj with rfl | hj
    · exact k1
    · rcases List.mem_cons.1 hj with rfl | hj
      · exact k2
      · obtain rfl : j' = k := by simpa using hj
        exact k3

/-- The region: readers, then the tree. -/
theorem wp_region_q {id : Nat} {a : Act} {w : World} (B : Nat) (rs : List Nat) (q : QT) (T : List Nat) (hm : P.follows .mixedOrders = true) (hsel : Region.noSelect ops = true)
    (hc : (segT ops T (Array.replicate ops.size false) rs && (planQ ops T (mark (Array.replicate ops.size false) rs) q && qLen T q + rs.length == ops.size)) = true)
    (hQ : ∀ c a t v w, Q (.panic c) (Act.put a (some t) v) w → Q (.panic c) a w)
    (h : wpQuiet P ops (AfterB B w.drew) (fun a' => wpQ P ops Q T B q a' w.drew) (pick ops rs) a) : (Code.region id ops true).wp P Q a w := by
  simp only [Bool.and_eq_true, beq_iff_eq] at hc
  obtain ⟨h1, h2, h3⟩ := hc
  have hs := segT_any (T := T) hsel hQ B w.drew _ (qLen T q) rs _ a h1 h (fun a' ha => planQ_any B q _ a' _ h2 ha)
  rw [h3] at hs
  exact wp_region_any hm (wpAnyT_any _ _ _ _ hs)
theorem q_pick {B : Nat} {rs : List Nat} {q : QT} {a : Act} {w : World} {l : List Oper} (hl : pick ops rs = l) (h : wpQuiet P ops (AfterB B w) (fun a' => wpQ P ops Q T B q a' w) l a) : wpQuiet P ops (AfterB B w) (fun a' => wpQ P ops Q T B q a' w) (pick ops rs) a := by
  subst hl; exact h
theorem q_fin {B : Nat} {a : Act} {w : World} {t : List Oper} (ht : pick ops T = t) (h : wpList P ops Q t a w) : wpQ P ops Q T B .fin a w := by
  subst ht; exact h
end

/-- What the calls read stays. -/
def Ag (S : List Nat) (a0 a : Act) : Prop := ∀ s ∈ S, a.tmps.getD s undef = a0.tmps.getD s undef
theorem Ag.refl (S : List Nat) (a : Act) : Ag S a a := fun _ _ => rfl
theorem Ag.put {S : List Nat} {a0 a : Act} (h : Ag S a0 a) {d : Nat} (hd : d ∉ S) (v : Value) : Ag S a0 (a.put (some d) v) := fun s hs => by
  have hne : d ≠ s := fun e => hd (e ▸ hs)
  rw [← h s hs]
  simp [Act.put, Array.getElem?_setIfInBounds_ne hne]
theorem ne_put {x y : Nat} (h : x ≠ y) : ∀ d : Tmp, (some x : Option Tmp) = some d → (some y : Option Tmp) ≠ some d := fun _ e k => h (Option.some.inj (e.trans k.symm))
def ptrV (p : Nat) : Value := .pointer (some ⟨p, 0, none⟩)

section
variable {P : Program} {ops : Array Oper} {Q : Exit → Act → World → Prop}
/-- A call: its value, and nothing that was there has changed. -/
def Stp (P : Program) (ops : Array Oper) (Q : Exit → Act → World → Prop) (B : Nat) (w0 : World) (S : List Nat) (a0 : Act) (i d : Nat) (v : Value) : Prop :=
  ∀ (a : Act) (w : World) (K : Act → World → Prop), Ag S a0 a → Below B w0 w → (∀ w', Below w.heap.size w w' → K (a.put (some d) v) w') → wpOp P ops Q i K a w
/-- A new block. -/
def Sta (P : Program) (ops : Array Oper) (Q : Exit → Act → World → Prop) (j e : Nat) (cs : Array Value) (ty : TypeId) : Prop :=
  ∀ (a : Act) (w : World) (K : Act → World → Prop), K (a.put (some e) (ptrV w.heap.size)) (w.alloc (.cells cs ty)) → wpOp P ops Q j K a w
theorem stp_call {B i d : Nat} {w0 : World} {S : List Nat} {a0 : Act} {v : Value} {f : FuncId} {args : Array Operand} {tys : Array TypeId} {ty : TypeId} {pos : String} {after : Array Edge}
    (hf : ∀ (xs : Array Value) (w : World), (callFunc f xs).run P w = .ok (.enter f xs) w)
    (ho : ops[i]? = some { dst := some d, op := .call { callee := .value (.func f), args := args, argTypes := tys }, type := ty, pos := pos, after := after, guard := none })
    {vs : Array Value} (hvl : ∀ a, Ag S a0 a → args.toList.map a.eval = vs.toList)
    (hc : ∀ w, Below B w0 w → Calls P f vs w (fun e w' => e = .returned v ∧ Below w.heap.size w w')) : Stp P ops Q B w0 S a0 i d v := by
  intro a w K ha hb hk
  have hw : Region.wanted { dst := some d, op := .call { callee := .value (.func f), args := args, argTypes := tys }, type := ty, pos := pos, after := after, guard := none } (yielded ops a.tmps) = true := rfl
  unfold wpOp
  simp only [ho]
  rw [if_pos hw]
  refine .inl ?_
  have hvs : args.map a.eval = vs := Array.ext' (by simpa using hvl a ha)
  subst hvs
  unfold Oper.wp
  rw [execOp_call_go, hf]
  simp only [Oper.upon, Array.empty_append, Array.append_empty]
  refine (hc w hb).mono fun e w' hh => ?_
  obtain ⟨rfl, h1⟩ := hh
  exact hk w' h1
theorem stp_alloc {j e : Nat} {o : Oper} {cs : Array Value} {ty : TypeId} (ho : ops[j]? = some o) (hd : o.dst = some e) (hw : ∀ xs, Region.wanted o xs = true)
    (hr : ∀ (ρ : Operand → Value) (w : World), (execOp ρ o).run P w = .ok (.value (.pointer (some ⟨w.heap.size, 0, none⟩))) (w.alloc (.cells cs ty))) : Sta P ops Q j e cs ty := by
  intro a w K hk
  unfold wpOp
  simp only [ho]
  rw [if_pos (hw _)]
  refine .inl ?_
  unfold Oper.wp
  rw [hr]
  show K (a.put o.dst _) _
  rw [hd]
  exact hk
end
def pq211 (_ _ _ _ : Nat) : QT := .fin
def pq111 (i1 i2 j1 j2 : Nat) : QT := .one i2 (pq211 i1 i2 j1 j2)
def pq201 (i1 i2 j1 j2 : Nat) : QT := .one j1 (pq211 i1 i2 j1 j2)
def pq210 (i1 i2 j1 j2 : Nat) : QT := .one j2 (pq211 i1 i2 j1 j2)
def pq011 (i1 i2 j1 j2 : Nat) : QT := .one i1 (pq111 i1 i2 j1 j2)
def pq101 (i1 i2 j1 j2 : Nat) : QT := .two i2 (pq201 i1 i2 j1 j2) j1 (pq111 i1 i2 j1 j2)
def pq110 (i1 i2 j1 j2 : Nat) : QT := .two i2 (pq210 i1 i2 j1 j2) j2 (pq111 i1 i2 j1 j2)
def pq200 (i1 i2 j1 j2 : Nat) : QT := .two j1 (pq210 i1 i2 j1 j2) j2 (pq201 i1 i2 j1 j2)
def pq001 (i1 i2 j1 j2 : Nat) : QT := .two i1 (pq101 i1 i2 j1 j2) j1 (pq011 i1 i2 j1 j2)
def pq010 (i1 i2 j1 j2 : Nat) : QT := .two i1 (pq110 i1 i2 j1 j2) j2 (pq011 i1 i2 j1 j2)
def pq100 (i1 i2 j1 j2 : Nat) : QT := .three i2 (pq200 i1 i2 j1 j2) j1 (pq110 i1 i2 j1 j2) j2 (pq101 i1 i2 j1 j2)
def pq000 (i1 i2 j1 j2 : Nat) : QT := .three i1 (pq100 i1 i2 j1 j2) j1 (pq010 i1 i2 j1 j2) j2 (pq001 i1 i2 j1 j2)
/-- Two calls, two new blocks. -/
def pairQ (i1 i2 j1 j2 : Nat) : QT := pq000 i1 i2 j1 j2

section
variable {P : Program} {ops : Array Oper} {Q : Exit → Act → World → Prop} {T : List Nat} {B i1 i2 j1 j2 d1 d2 e1 e2 : Nat} {w0 : World} {S : List Nat} {a0 : Act} {v1 v2 : Value} {cs : Array Value} {ty : TypeId}
/-- All that is wanted of such a region. -/
structure PairOk (P : Program) (ops : Array Oper) (Q : Exit → Act → World → Prop) (T : List Nat) (B i1 i2 j1 j2 d1 d2 e1 e2 : Nat) (w0 : World) (S : List Nat) (a0 : Act) (v1 v2 : Value) (cs : Array Value) (ty : TypeId) : Prop where
  s1 : Stp P ops Q B w0 S a0 i1 d1 v1
  s2 : Stp P ops Q B w0 S a0 i2 d2 v2
  t1 : Sta P ops Q j1 e1 cs ty
  t2 : Sta P ops Q j2 e2 cs ty
  n1 : d1 ∉ S
  n2 : d2 ∉ S
  n3 : e1 ∉ S
  n4 : e2 ∉ S
  e12 : e1 ≠ d1 ∧ e1 ≠ d2 ∧ e2 ≠ d1 ∧ e2 ≠ d2 ∧ e2 ≠ e1
  hB : B = w0.heap.size
  fin : ∀ (p1 p2 : Nat) (w : World), B ≤ p1 → B ≤ p2 → p1 ≠ p2 → w.heap[p1]? = some (.cells cs ty (0, 0)) → w.heap[p2]? = some (.cells cs ty (0, 0)) → Below B w0 w →
    wpQ P ops Q T B .fin ((((a0.put (some d1) v1).put (some d2) v2).put (some e1) (ptrV p1)).put (some e2) (ptrV p2)) w
theorem pair211 (h : PairOk P ops Q T B i1 i2 j1 j2 d1 d2 e1 e2 w0 S a0 v1 v2 cs ty) : ∀ (p1 p2 : Nat) (w : World), Below B w0 w → B ≤ p1 → w.heap[p1]? = some (.cells cs ty (0, 0)) → B ≤ p2 → w.heap[p2]? = some (.cells cs ty (0, 0)) → p1 ≠ p2 → wpQ P ops Q T B (pq211 i1 i2 j1 j2) ((((a0.put (some d1) v1).put (some d2) v2).put (some e1) (ptrV p1)).put (some e2) (ptrV p2)) w := by
  intro p1 p2 w hb b1 x1 b2 x2 ne
  exact h.fin p1 p2 w b1 b2 ne x1 x2 hb
theorem pair111 (h : PairOk P ops Q T B i1 i2 j1 j2 d1 d2 e1 e2 w0 S a0 v1 v2 cs ty) : ∀ (p1 p2 : Nat) (w : World), Below B w0 w → B ≤ p1 → w.heap[p1]? = some (.cells cs ty (0, 0)) → B ≤ p2 → w.heap[p2]? = some (.cells cs ty (0, 0)) → p1 ≠ p2 → wpQ P ops Q T B (pq111 i1 i2 j1 j2) (((a0.put (some d1) v1).put (some e1) (ptrV p1)).put (some e2) (ptrV p2)) w := by
  intro p1 p2 w hb b1 x1 b2 x2 ne
  have hs : B ≤ w.heap.size := Nat.le_trans (Nat.le_of_eq h.hB) hb.size
  refine h.s2 _ _ _ (Ag.put (Ag.put (Ag.put (Ag.refl S a0) h.n1 v1) h.n3 (ptrV p1)) h.n4 (ptrV p2)) hb (fun w' hw => ⟨hw.mono hs, ?_⟩)
  rw [Act.put_comm ((a0.put (some d1) v1).put (some e1) (ptrV p1)) (ptrV p2) v2 (ne_put h.e12.2.2.2.1), Act.put_comm (a0.put (some d1) v1) (ptrV p1) v2 (ne_put h.e12.2.1)]
  exact pair211 h p1 p2 w' (hb.trans (hw.mono hs)) b1 ((hw.block p1 (heap_lt x1)).trans x1) b2 ((hw.block p2 (heap_lt x2)).trans x2) ne
theorem pair201 (h : PairOk P ops Q T B i1 i2 j1 j2 d1 d2 e1 e2 w0 S a0 v1 v2 cs ty) : ∀ (p2 : Nat) (w : World), Below B w0 w → B ≤ p2 → w.heap[p2]? = some (.cells cs ty (0, 0)) → wpQ P ops Q T B (pq201 i1 i2 j1 j2) (((a0.put (some d1) v1).put (some d2) v2).put (some e2) (ptrV p2)) w := by
  intro p2 w hb b2 x2
  have hs : B ≤ w.heap.size := Nat.le_trans (Nat.le_of_eq h.hB) hb.size
  refine h.t1 _ _ _ ⟨(Below.refl _ _).alloc hs _, ?_⟩
  rw [Act.put_comm ((a0.put (some d1) v1).put (some d2) v2) (ptrV p2) (ptrV w.heap.size) (ne_put h.e12.2.2.2.2)]
  exact pair211 h w.heap.size p2 _ (hb.trans ((Below.refl _ _).alloc hs _)) hs (heap_alloc_new w _) b2 ((heap_alloc_old _ _ (heap_lt x2)).trans x2) (fun e => by have := heap_lt x2; omega)
theorem pair210 (h : PairOk P ops Q T B i1 i2 j1 j2 d1 d2 e1 e2 w0 S a0 v1 v2 cs ty) : ∀ (p1 : Nat) (w : World), Below B w0 w → B ≤ p1 → w.heap[p1]? = some (.cells cs ty (0, 0)) → wpQ P ops Q T B (pq210 i1 i2 j1 j2) (((a0.put (some d1) v1).put (some d2) v2).put (some e1) (ptrV p1)) w := by
  intro p1 w hb b1 x1
  have hs : B ≤ w.heap.size := Nat.le_trans (Nat.le_of_eq h.hB) hb.size
  refine h.t2 _ _ _ ⟨(Below.refl _ _).alloc hs _, ?_⟩
  exact pair211 h p1 w.heap.size _ (hb.trans ((Below.refl _ _).alloc hs _)) b1 ((heap_alloc_old _ _ (heap_lt x1)).trans x1) hs (heap_alloc_new w _) (fun e => by have := heap_lt x1; omega)
theorem pair011 (h : PairOk P ops Q T B i1 i2 j1 j2 d1 d2 e1 e2 w0 S a0 v1 v2 cs ty) : ∀ (p1 p2 : Nat) (w : World), Below B w0 w → B ≤ p1 → w.heap[p1]? = some (.cells cs ty (0, 0)) → B ≤ p2 → w.heap[p2]? = some (.cells cs ty (0, 0)) → p1 ≠ p2 → wpQ P ops Q T B (pq011 i1 i2 j1 j2) ((a0.put (some e1) (ptrV p1)).put (some e2) (ptrV p2)) w := by
  intro p1 p2 w hb b1 x1 b2 x2 ne
  have hs : B ≤ w.heap.size := Nat.le_trans (Nat.le_of_eq h.hB) hb.size
  refine h.s1 _ _ _ (Ag.put (Ag.put (Ag.refl S a0) h.n3 (ptrV p1)) h.n4 (ptrV p2)) hb (fun w' hw => ⟨hw.mono hs, ?_⟩)
  rw [Act.put_comm (a0.put (some e1) (ptrV p1)) (ptrV p2) v1 (ne_put h.e12.2.2.1), Act.put_comm a0 (ptrV p1) v1 (ne_put h.e12.1)]
  exact pair111 h p1 p2 w' (hb.trans (hw.mono hs)) b1 ((hw.block p1 (heap_lt x1)).trans x1) b2 ((hw.block p2 (heap_lt x2)).trans x2) ne
theorem pair101 (h : PairOk P ops Q T B i1 i2 j1 j2 d1 d2 e1 e2 w0 S a0 v1 v2 cs ty) : ∀ (p2 : Nat) (w : World), Below B w0 w → B ≤ p2 → w.heap[p2]? = some (.cells cs ty (0, 0)) → wpQ P ops Q T B (pq101 i1 i2 j1 j2) ((a0.put (some d1) v1).put (some e2) (ptrV p2)) w := by
  intro p2 w hb b2 x2
  have hs : B ≤ w.heap.size := Nat.le_trans (Nat.le_of_eq h.hB) hb.size
  refine ⟨?_, ?_⟩
  · refine h.s2 _ _ _ (Ag.put (Ag.put (Ag.refl S a0) h.n1 v1) h.n4 (ptrV p2)) hb (fun w' hw => ⟨hw.mono hs, ?_⟩)
    rw [Act.put_comm (a0.put (some d1) v1) (ptrV p2) v2 (ne_put h.e12.2.2.2.1)]
    exact pair201 h p2 w' (hb.trans (hw.mono hs)) b2 ((hw.block p2 (heap_lt x2)).trans x2)
  · refine h.t1 _ _ _ ⟨(Below.refl _ _).alloc hs _, ?_⟩
    rw [Act.put_comm (a0.put (some d1) v1) (ptrV p2) (ptrV w.heap.size) (ne_put h.e12.2.2.2.2)]
    exact pair111 h w.heap.size p2 _ (hb.trans ((Below.refl _ _).alloc hs _)) hs (heap_alloc_new w _) b2 ((heap_alloc_old _ _ (heap_lt x2)).trans x2) (fun e => by have := heap_lt x2; omega)
theorem pair110 (h : PairOk P ops Q T B i1 i2 j1 j2 d1 d2 e1 e2 w0 S a0 v1 v2 cs ty) : ∀ (p1 : Nat) (w : World), Below B w0 w → B ≤ p1 → w.heap[p1]? = some (.cells cs ty (0, 0)) → wpQ P ops Q T B (pq110 i1 i2 j1 j2) ((a0.put (some d1) v1).put (some e1) (ptrV p1)) w := by
  intro p1 w hb b1 x1
  have hs : B ≤ w.heap.size := Nat.le_trans (Nat.le_of_eq h.hB) hb.size
  refine ⟨?_, ?_⟩
  · refine h.s2 _ _ _ (Ag.put (Ag.put (Ag.refl S a0) h.n1 v1) h.n3 (ptrV p1)) hb (fun w' hw => ⟨hw.mono hs, ?_⟩)
    rw [Act.put_comm (a0.put (some d1) v1) (ptrV p1) v2 (ne_put h.e12.2.1)]
    exact pair210 h p1 w' (hb.trans (hw.mono hs)) b1 ((hw.block p1 (heap_lt x1)).trans x1)
  · refine h.t2 _ _ _ ⟨(Below.refl _ _).alloc hs _, ?_⟩
    exact pair111 h p1 w.heap.size _ (hb.trans ((Below.refl _ _).alloc hs _)) b1 ((heap_alloc_old _ _ (heap_lt x1)).trans x1) hs (heap_alloc_new w _) (fun e => by have := heap_lt x1; omega)
theorem pair200 (h : PairOk P ops Q T B i1 i2 j1 j2 d1 d2 e1 e2 w0 S a0 v1 v2 cs ty) : ∀ (w : World), Below B w0 w → wpQ P ops Q T B (pq200 i1 i2 j1 j2) ((a0.put (some d1) v1).put (some d2) v2) w := by
  intro  w hb
  have hs : B ≤ w.heap.size := Nat.le_trans (Nat.le_of_eq h.hB) hb.size
  refine ⟨?_, ?_⟩
  · refine h.t1 _ _ _ ⟨(Below.refl _ _).alloc hs _, ?_⟩
    exact pair210 h w.heap.size _ (hb.trans ((Below.refl _ _).alloc hs _)) hs (heap_alloc_new w _)
  · refine h.t2 _ _ _ ⟨(Below.refl _ _).alloc hs _, ?_⟩
    exact pair201 h w.heap.size _ (hb.trans ((Below.refl _ _).alloc hs _)) hs (heap_alloc_new w _)
theorem pair001 (h : PairOk P ops Q T B i1 i2 j1 j2 d1 d2 e1 e2 w0 S a0 v1 v2 cs ty) : ∀ (p2 : Nat) (w : World), Below B w0 w → B ≤ p2 → w.heap[p2]? = some (.cells cs ty (0, 0)) → wpQ P ops Q T B (pq001 i1 i2 j1 j2) (a0.put (some e2) (ptrV p2)) w := by
  intro p2 w hb b2 x2
  have hs : B ≤ w.heap.size := Nat.le_trans (Nat.le_of_eq h.hB) hb.size
  refine ⟨?_, ?_⟩
  · refine h.s1 _ _ _ (Ag.put (Ag.refl S a0) h.n4 (ptrV p2)) hb (fun w' hw => ⟨hw.mono hs, ?_⟩)
    rw [Act.put_comm a0 (ptrV p2) v1 (ne_put h.e12.2.2.1)]
    exact pair101 h p2 w' (hb.trans (hw.mono hs)) b2 ((hw.block p2 (heap_lt x2)).trans x2)
  · refine h.t1 _ _ _ ⟨(Below.refl _ _).alloc hs _, ?_⟩
    rw [Act.put_comm a0 (ptrV p2) (ptrV w.heap.size) (ne_put h.e12.2.2.2.2)]
    exact pair011 h w.heap.size p2 _ (hb.trans ((Below.refl _ _).alloc hs _)) hs (heap_alloc_new w _) b2 ((heap_alloc_old _ _ (heap_lt x2)).trans x2) (fun e => by have := heap_lt x2; omega)
theorem pair010 (h : PairOk P ops Q T B i1 i2 j1 j2 d1 d2 e1 e2 w0 S a0 v1 v2 cs ty) : ∀ (p1 : Nat) (w : World), Below B w0 w → B ≤ p1 → w.heap[p1]? = some (.cells cs ty (0, 0)) → wpQ P ops Q T B (pq010 i1 i2 j1 j2) (a0.put (some e1) (ptrV p1)) w := by
  intro p1 w hb b1 x1
  have hs : B ≤ w.heap.size := Nat.le_trans (Nat.le_of_eq h.hB) hb.size
  refine ⟨?_, ?_⟩
  · refine h.s1 _ _ _ (Ag.put (Ag.refl S a0) h.n3 (ptrV p1)) hb (fun w' hw => ⟨hw.mono hs, ?_⟩)
    rw [Act.put_comm a0 (ptrV p1) v1 (ne_put h.e12.1)]
    exact pair110 h p1 w' (hb.trans (hw.mono hs)) b1 ((hw.block p1 (heap_lt x1)).trans x1)
  · refine h.t2 _ _ _ ⟨(Below.refl _ _).alloc hs _, ?_⟩
    exact pair011 h p1 w.heap.size _ (hb.trans ((Below.refl _ _).alloc hs _)) b1 ((heap_alloc_old _ _ (heap_lt x1)).trans x1) hs (heap_alloc_new w _) (fun e => by have := heap_lt x1; omega)
theorem pair100 (h : PairOk P ops Q T B i1 i2 j1 j2 d1 d2 e1 e2 w0 S a0 v1 v2 cs ty) : ∀ (w : World), Below B w0 w → wpQ P ops Q T B (pq100 i1 i2 j1 j2) (a0.put (some d1) v1) w := by
  intro  w hb
  have hs : B ≤ w.heap.size := Nat.le_trans (Nat.le_of_eq h.hB) hb.size
  refine ⟨?_, ?_, ?_⟩
  · refine h.s2 _ _ _ (Ag.put (Ag.refl S a0) h.n1 v1) hb (fun w' hw => ⟨hw.mono hs, ?_⟩)
    exact pair200 h  w' (hb.trans (hw.mono hs))
  · refine h.t1 _ _ _ ⟨(Below.refl _ _).alloc hs _, ?_⟩
    exact pair110 h w.heap.size _ (hb.trans ((Below.refl _ _).alloc hs _)) hs (heap_alloc_new w _)
  · refine h.t2 _ _ _ ⟨(Below.refl _ _).alloc hs _, ?_⟩
    exact pair101 h w.heap.size _ (hb.trans ((Below.refl _ _).alloc hs _)) hs (heap_alloc_new w _)
theorem pair000 (h : PairOk P ops Q T B i1 i2 j1 j2 d1 d2 e1 e2 w0 S a0 v1 v2 cs ty) : ∀ (w : World), Below B w0 w → wpQ P ops Q T B (pq000 i1 i2 j1 j2) a0 w := by
  intro  w hb
  have hs : B ≤ w.heap.size := Nat.le_trans (Nat.le_of_eq h.hB) hb.size
  refine ⟨?_, ?_, ?_⟩
  · refine h.s1 _ _ _ (Ag.refl S a0) hb (fun w' hw => ⟨hw.mono hs, ?_⟩)
    exact pair100 h  w' (hb.trans (hw.mono hs))
  · refine h.t1 _ _ _ ⟨(Below.refl _ _).alloc hs _, ?_⟩
    exact pair010 h w.heap.size _ (hb.trans ((Below.refl _ _).alloc hs _)) hs (heap_alloc_new w _)
  · refine h.t2 _ _ _ ⟨(Below.refl _ _).alloc hs _, ?_⟩
    exact pair001 h w.heap.size _ (hb.trans ((Below.refl _ _).alloc hs _)) hs (heap_alloc_new w _)
theorem qpair_any (h : PairOk P ops Q T B i1 i2 j1 j2 d1 d2 e1 e2 w0 S a0 v1 v2 cs ty) : wpQ P ops Q T B (pairQ i1 i2 j1 j2) a0 w0 := pair000 h w0 (Below.refl _ _)
end
end Go.Proofs.YtbemaoncakcnjaaGreat

/- What the program's allocation (layer 12) is to tell. -/
namespace Go.Proofs.YtbemaoncakcnjaaGreat
open Go.RowKit

/-- The arena is another heap, or there is an error, and all is as it was. -/
def Turned (k : Int) (g base cap : Nat) (A : Option Addr) (bs : List UInt8) (H : Hp) (y : Option Hp) (w : World) (e : Ending) (w' : World) : Prop :=
  match y with
  | none => e = .returned (errV false k) ∧ Below w.heap.size w w'
  | some H' => e = .returned (errV true k) ∧ ∃ out, Became 92 g base cap A out w w' ∧ Rt out H' ∧ Held H bs H' out
def TurnedAt (g base cap : Nat) (A : Option Addr) (bs : List UInt8) (H : Hp) (y : Option Nat × Hp) (w : World) (e : Ending) (w' : World) : Prop :=
  match y.1 with
  | none => e = .returned (.tuple #[.int .i64 0, errV false 5]) ∧ Below w.heap.size w w'
  | some o => e = .returned (.tuple #[.int .i64 (o : Int), errV true 5]) ∧ ∃ out, Became 92 g base cap A out w w' ∧ Rt out y.2 ∧ Held H bs y.2 out

def TakeK : Prop := ∀ (w : World) (g base cap c : Nat) (A : Option Addr) (bs : List UInt8) (H : Hp) (s : Int), Ar w 92 g base cap A c bs → base ≤ 4611686018427387904 → cap ≤ 16384 → H.cap = cap → Rt bs H → (-9223372036854775808 ≤ s ∧ s ≤ 9223372036854775807) →
  (isSz s = false → Calls Tryz.prog 42 #[.pointer (some ⟨g, 0, none⟩), .int .i64 s] w fun e w' => e = .returned (.tuple #[.int .i64 0, errV false 1]) ∧ Below w.heap.size w w') ∧
  (isSz s = true → Calls Tryz.prog 42 #[.pointer (some ⟨g, 0, none⟩), .int .i64 s] w fun e w' => TurnedAt g base cap A bs H (H.take s.toNat) w e w')
def GiveK : Prop := ∀ (w : World) (g base cap c : Nat) (A : Option Addr) (bs : List UInt8) (H : Hp) (o : Int), Ar w 92 g base cap A c bs → base ≤ 4611686018427387904 → cap ≤ 16384 → H.cap = cap → Rt bs H → (-9223372036854775808 ≤ o ∧ o ≤ 9223372036854775807) →
  Calls Tryz.prog 34 #[.pointer (some ⟨g, 0, none⟩), .int .i64 o] w fun e w' => Turned 3 g base cap A bs H (H.giveO o) w e w'
def TrimK : Prop := ∀ (w : World) (g base cap c : Nat) (A : Option Addr) (bs : List UInt8) (H : Hp) (o s : Int), Ar w 92 g base cap A c bs → base ≤ 4611686018427387904 → cap ≤ 16384 → H.cap = cap → Rt bs H → (-9223372036854775808 ≤ o ∧ o ≤ 9223372036854775807) → (-9223372036854775808 ≤ s ∧ s ≤ 9223372036854775807) →
  (isSz s = false → Calls Tryz.prog 37 #[.pointer (some ⟨g, 0, none⟩), .int .i64 o, .int .i64 s] w fun e w' => e = .returned (errV false 1) ∧ Below w.heap.size w w') ∧
  (isSz s = true → Calls Tryz.prog 37 #[.pointer (some ⟨g, 0, none⟩), .int .i64 o, .int .i64 s] w fun e w' => Turned 3 g base cap A bs H (H.trimO o s.toNat) w e w')
def UsedK : Prop := ∀ (w : World) (g base cap c : Nat) (A : Option Addr) (bs : List UInt8) (H : Hp) (o : Int), Ar w 92 g base cap A c bs → base ≤ 4611686018427387904 → cap ≤ 16384 → H.cap = cap → Rt bs H → (-9223372036854775808 ≤ o ∧ o ≤ 9223372036854775807) →
  Calls Tryz.prog 40 #[.pointer (some ⟨g, 0, none⟩), .int .i64 o] w fun e w' => BlkTold ((usedB H.blks o).map (bkAt H.blks)) w e w'
end Go.Proofs.YtbemaoncakcnjaaGreat

/- The program's taking (layer 12): the free block that stands at an offset, or ends there; taking one out of its list; these and other calls behind steps that changed the arena (gentak1.py). -/
namespace Go.Proofs.YtbemaoncakcnjaaGreat
open Go.RowKit

/-- A free block's value; one of no bytes, if there is none. -/
def frV (o : Int) : Option Bk → Value
  | none => .agg #[.int .i64 o, .int .i64 0, .bool false]
  | some y => .agg #[.int .i64 (y.off : Int), .int .i64 (y.size : Int), .bool false]
set_option maxRecDepth 100000 in
theorem blk_ret1 {fn : Func} {R : Ending → World → Prop} {a : Act} {w : World} {p : Tmp} {g : Nat} {o s : Int} {b : Bool} (hres : fn.results = #[.cell p 51]) (hp : a.tmps.getD p undef = .pointer (some ⟨g, 0, none⟩)) (hd : a.defers = [])
    (hg : w.heap[g]? = some (.cells #[.int .i64 o, .int .i64 s, .bool b] 51 (0, 0))) (hR : R (.returned (.agg #[.int .i64 o, .int .i64 s, .bool b])) w) : bodyPost Tryz.prog fn R .ret a w := by
  refine bodyPost_ret (v := .agg #[.int .i64 o, .int .i64 s, .bool b]) ?_ hd hR
  exact results_cell_row hres _ _ g _ _ _ _ hp hg rfl rfl rfl

section
variable {w : World} {g base cap c : Nat} {A : Option Addr} {bs : List UInt8}
set_option maxRecDepth 100000 in
set_option maxHeartbeats 1000000 in
theorem freeAt_none (h : Ar w 92 g base cap A c bs) (hb : base ≤ 4611686018427387904) (hl : bs.length ≤ 16384) (o : Int) (ho : -9223372036854775808 ≤ o ∧ o ≤ 9223372036854775807) (hy : getB bs o = none) :
    Calls Tryz.prog 96 #[.pointer (some ⟨g, 0, none⟩), .int .i64 o] w fun e w' => e = .returned (frV o none) ∧ Below w.heap.size w w' := by
  obtain ⟨w1, hw1⟩ : ∃ w1, w.alloc (.cells #[.int .i64 0, .int .i64 0, .bool false] 51) = w1 := ⟨_, rfl⟩
  have hb1 : Below w.heap.size w w1 := by rw [← hw1]; exact (Below.refl _ _).alloc (Nat.le_refl _) _
  have hn1 : w1.heap[w.heap.size]? = some (.cells #[.int .i64 0, .int .i64 0, .bool false] 51 (0, 0)) := by rw [← hw1]; exact heap_alloc_new w _
  have h1 := h.below hb1
  have hG := getC w1 g base cap c A bs o _ h1 hb hl ho hy
  dsimp only [BlkTold, bkV, Bk.val, Option.isSome, errV] at hG
  have HG := Lib.hid hG
  have HW1 := Lib.hid hw1
  have HB1 := Lib.hid hb1
  have HN1 := Lib.hid hn1
  clear hG hy hw1 hb1 hn1 h1 h
  go_enter Tryz.func96, Tryz.ntmps96
  go_wp2_with fail
  rw [HW1.out]
  with_reducible refine HG.out.mono ?_
  rintro e w2 ⟨rfl, hb2⟩
  have hn2 := (hb2.block w.heap.size (heap_lt HN1.out)).trans HN1.out
  have HB2 := Lib.hid (HB1.out.trans (hb2.mono HB1.out.size))
  have HN2 := Lib.hid hn2
  clear hb2 hn2 HG
  obtain ⟨⟨c0, c1, c2⟩, f0, f1, f2⟩ := blk_cells HN2.out
  have hlt := heap_lt' HN2.out
  go_wp2
  (try simp only [Exit.inBlock, Exit.then])
  refine blk_ret1 (g := w.heap.size) (o := o) (s := 0) (b := false) Tryz.results96 ?_ ?_ ((heap_alloc_old _ _ (heap_lt (blk_set HN2.out _ _ _))).trans (blk_set HN2.out _ _ _)) ?_
  · rfl
  · rfl
  · refine ⟨rfl, Below.alloc (((HB2.out.setCell ?_ _).setCell ?_ _).setCell ?_ _) ?_ _⟩
    · exact Nat.le_refl _
    · exact Nat.le_refl _
    · exact Nat.le_refl _
    · simp only [World.setCell]
      have h9 := HB2.out.size
      simpa using h9

set_option maxRecDepth 100000 in
set_option maxHeartbeats 1000000 in
theorem freeAt_used (h : Ar w 92 g base cap A c bs) (hb : base ≤ 4611686018427387904) (hl : bs.length ≤ 16384) (o : Int) (ho : -9223372036854775808 ≤ o ∧ o ≤ 9223372036854775807) (xo xs : Nat) (hy : getB bs o = some ⟨xo, xs, true⟩) :
    Calls Tryz.prog 96 #[.pointer (some ⟨g, 0, none⟩), .int .i64 o] w fun e w' => e = .returned (frV o none) ∧ Below w.heap.size w w' := by
  obtain ⟨w1, hw1⟩ : ∃ w1, w.alloc (.cells #[.int .i64 0, .int .i64 0, .bool false] 51) = w1 := ⟨_, rfl⟩
  have hb1 : Below w.heap.size w w1 := by rw [← hw1]; exact (Below.refl _ _).alloc (Nat.le_refl _) _
  have hn1 : w1.heap[w.heap.size]? = some (.cells #[.int .i64 0, .int .i64 0, .bool false] 51 (0, 0)) := by rw [← hw1]; exact heap_alloc_new w _
  have h1 := h.below hb1
  have hG := getC w1 g base cap c A bs o _ h1 hb hl ho hy
  dsimp only [BlkTold, bkV, Bk.val, Option.isSome, errV] at hG
  have HG := Lib.hid hG
  have HW1 := Lib.hid hw1
  have HB1 := Lib.hid hb1
  have HN1 := Lib.hid hn1
  clear hG hy hw1 hb1 hn1 h1 h
  go_enter Tryz.func96, Tryz.ntmps96
  go_wp2_with fail
  rw [HW1.out]
  with_reducible refine HG.out.mono ?_
  rintro e w2 ⟨rfl, hb2⟩
  have hn2 := (hb2.block w.heap.size (heap_lt HN1.out)).trans HN1.out
  have HB2 := Lib.hid (HB1.out.trans (hb2.mono HB1.out.size))
  have HN2 := Lib.hid hn2
  clear hb2 hn2 HG
  obtain ⟨⟨c0, c1, c2⟩, f0, f1, f2⟩ := blk_cells HN2.out
  have hlt := heap_lt' HN2.out
  go_wp2
  (try simp only [Exit.inBlock, Exit.then])
  refine blk_ret1 (g := w.heap.size) (o := o) (s := 0) (b := false) Tryz.results96 ?_ ?_ ((heap_alloc_old _ _ (heap_lt (blk_set HN2.out _ _ _))).trans (blk_set HN2.out _ _ _)) ?_
  · rfl
  · rfl
  · refine ⟨rfl, Below.alloc (((HB2.out.setCell ?_ _).setCell ?_ _).setCell ?_ _) ?_ _⟩
    · exact Nat.le_refl _
    · exact Nat.le_refl _
    · exact Nat.le_refl _
    · simp only [World.setCell]
      have h9 := HB2.out.size
      simpa using h9

set_option maxRecDepth 100000 in
set_option maxHeartbeats 1000000 in
theorem freeAt_free (h : Ar w 92 g base cap A c bs) (hb : base ≤ 4611686018427387904) (hl : bs.length ≤ 16384) (o : Int) (ho : -9223372036854775808 ≤ o ∧ o ≤ 9223372036854775807) (xo xs : Nat) (hy : getB bs o = some ⟨xo, xs, false⟩) :
    Calls Tryz.prog 96 #[.pointer (some ⟨g, 0, none⟩), .int .i64 o] w fun e w' => e = .returned (frV o (some ⟨xo, xs, false⟩)) ∧ Below w.heap.size w w' := by
  obtain ⟨w1, hw1⟩ : ∃ w1, w.alloc (.cells #[.int .i64 0, .int .i64 0, .bool false] 51) = w1 := ⟨_, rfl⟩
  have hb1 : Below w.heap.size w w1 := by rw [← hw1]; exact (Below.refl _ _).alloc (Nat.le_refl _) _
  have hn1 : w1.heap[w.heap.size]? = some (.cells #[.int .i64 0, .int .i64 0, .bool false] 51 (0, 0)) := by rw [← hw1]; exact heap_alloc_new w _
  have h1 := h.below hb1
  have hG := getC w1 g base cap c A bs o _ h1 hb hl ho hy
  dsimp only [BlkTold, bkV, Bk.val, Option.isSome, errV] at hG
  have HG := Lib.hid hG
  have HW1 := Lib.hid hw1
  have HB1 := Lib.hid hb1
  have HN1 := Lib.hid hn1
  clear hG hy hw1 hb1 hn1 h1 h
  go_enter Tryz.func96, Tryz.ntmps96
  go_wp2_with fail
  rw [HW1.out]
  with_reducible refine HG.out.mono ?_
  rintro e w2 ⟨rfl, hb2⟩
  have hn2 := (hb2.block w.heap.size (heap_lt HN1.out)).trans HN1.out
  have HB2 := Lib.hid (HB1.out.trans (hb2.mono HB1.out.size))
  have HN2 := Lib.hid hn2
  clear hb2 hn2 HG
  obtain ⟨⟨c0, c1, c2⟩, f0, f1, f2⟩ := blk_cells HN2.out
  have hlt := heap_lt' HN2.out
  go_wp2
  (try simp only [Exit.inBlock, Exit.then])
  refine blk_ret1 (g := w.heap.size) (o := (xo : Int)) (s := (xs : Int)) (b := false) Tryz.results96 ?_ ?_ ((heap_alloc_old _ _ (heap_lt (blk_set HN2.out _ _ _))).trans (blk_set HN2.out _ _ _)) ?_
  · rfl
  · rfl
  · refine ⟨rfl, Below.alloc (((HB2.out.setCell ?_ _).setCell ?_ _).setCell ?_ _) ?_ _⟩
    · exact Nat.le_refl _
    · exact Nat.le_refl _
    · exact Nat.le_refl _
    · simp only [World.setCell]
      have h9 := HB2.out.size
      simpa using h9

theorem freeAt_any (h : Ar w 92 g base cap A c bs) (hb : base ≤ 4611686018427387904) (hl : bs.length ≤ 16384) (o : Int) (ho : -9223372036854775808 ≤ o ∧ o ≤ 9223372036854775807) (y : Option Bk) (hy : frO (getB bs o) = y) :
    Calls Tryz.prog 96 #[.pointer (some ⟨g, 0, none⟩), .int .i64 o] w fun e w' => e = .returned (frV o y) ∧ Below w.heap.size w w' := by
  subst hy
  cases hg : getB bs o with
  | none => exact freeAt_none h hb hl o ho hg
  | some x =>
    obtain ⟨xo, xs, xu⟩ := x
    cases xu with
    | true => exact freeAt_used h hb hl o ho xo xs hg
    | false => exact freeAt_free h hb hl o ho xo xs hg
set_option maxRecDepth 100000 in
set_option maxHeartbeats 1000000 in
theorem freeAhead_none (h : Ar w 92 g base cap A c bs) (hb : base ≤ 4611686018427387904) (hl : bs.length ≤ 16384) (o : Int) (ho : -9223372036854775808 ≤ o ∧ o ≤ 9223372036854775807) (hy : aheadB bs o = none) :
    Calls Tryz.prog 97 #[.pointer (some ⟨g, 0, none⟩), .int .i64 o] w fun e w' => e = .returned (frV o none) ∧ Below w.heap.size w w' := by
  obtain ⟨w1, hw1⟩ : ∃ w1, w.alloc (.cells #[.int .i64 0, .int .i64 0, .bool false] 51) = w1 := ⟨_, rfl⟩
  have hb1 : Below w.heap.size w w1 := by rw [← hw1]; exact (Below.refl _ _).alloc (Nat.le_refl _) _
  have hn1 : w1.heap[w.heap.size]? = some (.cells #[.int .i64 0, .int .i64 0, .bool false] 51 (0, 0)) := by rw [← hw1]; exact heap_alloc_new w _
  have h1 := h.below hb1
  have hG := aheadC w1 g base cap c A bs o _ h1 hb hl ho hy
  dsimp only [BlkTold, bkV, Bk.val, Option.isSome, errV] at hG
  have HG := Lib.hid hG
  have HW1 := Lib.hid hw1
  have HB1 := Lib.hid hb1
  have HN1 := Lib.hid hn1
  clear hG hy hw1 hb1 hn1 h1 h
  go_enter Tryz.func97, Tryz.ntmps97
  go_wp2_with fail
  rw [HW1.out]
  with_reducible refine HG.out.mono ?_
  rintro e w2 ⟨rfl, hb2⟩
  have hn2 := (hb2.block w.heap.size (heap_lt HN1.out)).trans HN1.out
  have HB2 := Lib.hid (HB1.out.trans (hb2.mono HB1.out.size))
  have HN2 := Lib.hid hn2
  clear hb2 hn2 HG
  obtain ⟨⟨c0, c1, c2⟩, f0, f1, f2⟩ := blk_cells HN2.out
  have hlt := heap_lt' HN2.out
  go_wp2
  (try simp only [Exit.inBlock, Exit.then])
  refine blk_ret1 (g := w.heap.size) (o := o) (s := 0) (b := false) Tryz.results97 ?_ ?_ ((heap_alloc_old _ _ (heap_lt (blk_set HN2.out _ _ _))).trans (blk_set HN2.out _ _ _)) ?_
  · rfl
  · rfl
  · refine ⟨rfl, Below.alloc (((HB2.out.setCell ?_ _).setCell ?_ _).setCell ?_ _) ?_ _⟩
    · exact Nat.le_refl _
    · exact Nat.le_refl _
    · exact Nat.le_refl _
    · simp only [World.setCell]
      have h9 := HB2.out.size
      simpa using h9

set_option maxRecDepth 100000 in
set_option maxHeartbeats 1000000 in
theorem freeAhead_used (h : Ar w 92 g base cap A c bs) (hb : base ≤ 4611686018427387904) (hl : bs.length ≤ 16384) (o : Int) (ho : -9223372036854775808 ≤ o ∧ o ≤ 9223372036854775807) (xo xs : Nat) (hy : aheadB bs o = some ⟨xo, xs, true⟩) :
    Calls Tryz.prog 97 #[.pointer (some ⟨g, 0, none⟩), .int .i64 o] w fun e w' => e = .returned (frV o none) ∧ Below w.heap.size w w' := by
  obtain ⟨w1, hw1⟩ : ∃ w1, w.alloc (.cells #[.int .i64 0, .int .i64 0, .bool false] 51) = w1 := ⟨_, rfl⟩
  have hb1 : Below w.heap.size w w1 := by rw [← hw1]; exact (Below.refl _ _).alloc (Nat.le_refl _) _
  have hn1 : w1.heap[w.heap.size]? = some (.cells #[.int .i64 0, .int .i64 0, .bool false] 51 (0, 0)) := by rw [← hw1]; exact heap_alloc_new w _
  have h1 := h.below hb1
  have hG := aheadC w1 g base cap c A bs o _ h1 hb hl ho hy
  dsimp only [BlkTold, bkV, Bk.val, Option.isSome, errV] at hG
  have HG := Lib.hid hG
  have HW1 := Lib.hid hw1
  have HB1 := Lib.hid hb1
  have HN1 := Lib.hid hn1
  clear hG hy hw1 hb1 hn1 h1 h
  go_enter Tryz.func97, Tryz.ntmps97
  go_wp2_with fail
  rw [HW1.out]
  with_reducible refine HG.out.mono ?_
  rintro e w2 ⟨rfl, hb2⟩
  have hn2 := (hb2.block w.heap.size (heap_lt HN1.out)).trans HN1.out
  have HB2 := Lib.hid (HB1.out.trans (hb2.mono HB1.out.size))
  have HN2 := Lib.hid hn2
  clear hb2 hn2 HG
  obtain ⟨⟨c0, c1, c2⟩, f0, f1, f2⟩ := blk_cells HN2.out
  have hlt := heap_lt' HN2.out
  go_wp2
  (try simp only [Exit.inBlock, Exit.then])
  refine blk_ret1 (g := w.heap.size) (o := o) (s := 0) (b := false) Tryz.results97 ?_ ?_ ((heap_alloc_old _ _ (heap_lt (blk_set HN2.out _ _ _))).trans (blk_set HN2.out _ _ _)) ?_
  · rfl
  · rfl
  · refine ⟨rfl, Below.alloc (((HB2.out.setCell ?_ _).setCell ?_ _).setCell ?_ _) ?_ _⟩
    · exact Nat.le_refl _
    · exact Nat.le_refl _
    · exact Nat.le_refl _
    · simp only [World.setCell]
      have h9 := HB2.out.size
      simpa using h9

set_option maxRecDepth 100000 in
set_option maxHeartbeats 1000000 in
theorem freeAhead_free (h : Ar w 92 g base cap A c bs) (hb : base ≤ 4611686018427387904) (hl : bs.length ≤ 16384) (o : Int) (ho : -9223372036854775808 ≤ o ∧ o ≤ 9223372036854775807) (xo xs : Nat) (hy : aheadB bs o = some ⟨xo, xs, false⟩) :
    Calls Tryz.prog 97 #[.pointer (some ⟨g, 0, none⟩), .int .i64 o] w fun e w' => e = .returned (frV o (some ⟨xo, xs, false⟩)) ∧ Below w.heap.size w w' := by
  obtain ⟨w1, hw1⟩ : ∃ w1, w.alloc (.cells #[.int .i64 0, .int .i64 0, .bool false] 51) = w1 := ⟨_, rfl⟩
  have hb1 : Below w.heap.size w w1 := by rw [← hw1]; exact (Below.refl _ _).alloc (Nat.le_refl _) _
  have hn1 : w1.heap[w.heap.size]? = some (.cells #[.int .i64 0, .int .i64 0, .bool false] 51 (0, 0)) := by rw [← hw1]; exact heap_alloc_new w _
  have h1 := h.below hb1
  have hG := aheadC w1 g base cap c A bs o _ h1 hb hl ho hy
  dsimp only [BlkTold, bkV, Bk.val, Option.isSome, errV] at hG
  have HG := Lib.hid hG
  have HW1 := Lib.hid hw1
  have HB1 := Lib.hid hb1
  have HN1 := Lib.hid hn1
  clear hG hy hw1 hb1 hn1 h1 h
  go_enter Tryz.func97, Tryz.ntmps97
  go_wp2_with fail
  rw [HW1.out]
  with_reducible refine HG.out.mono ?_
  rintro e w2 ⟨rfl, hb2⟩
  have hn2 := (hb2.block w.heap.size (heap_lt HN1.out)).trans HN1.out
  have HB2 := Lib.hid (HB1.out.trans (hb2.mono HB1.out.size))
  have HN2 := Lib.hid hn2
  clear hb2 hn2 HG
  obtain ⟨⟨c0, c1, c2⟩, f0, f1, f2⟩ := blk_cells HN2.out
  have hlt := heap_lt' HN2.out
  go_wp2
  (try simp only [Exit.inBlock, Exit.then])
  refine blk_ret1 (g := w.heap.size) (o := (xo : Int)) (s := (xs : Int)) (b := false) Tryz.results97 ?_ ?_ ((heap_alloc_old _ _ (heap_lt (blk_set HN2.out _ _ _))).trans (blk_set HN2.out _ _ _)) ?_
  · rfl
  · rfl
  · refine ⟨rfl, Below.alloc (((HB2.out.setCell ?_ _).setCell ?_ _).setCell ?_ _) ?_ _⟩
    · exact Nat.le_refl _
    · exact Nat.le_refl _
    · exact Nat.le_refl _
    · simp only [World.setCell]
      have h9 := HB2.out.size
      simpa using h9

theorem freeAhead_any (h : Ar w 92 g base cap A c bs) (hb : base ≤ 4611686018427387904) (hl : bs.length ≤ 16384) (o : Int) (ho : -9223372036854775808 ≤ o ∧ o ≤ 9223372036854775807) (y : Option Bk) (hy : frO (aheadB bs o) = y) :
    Calls Tryz.prog 97 #[.pointer (some ⟨g, 0, none⟩), .int .i64 o] w fun e w' => e = .returned (frV o y) ∧ Below w.heap.size w w' := by
  subst hy
  cases hg : aheadB bs o with
  | none => exact freeAhead_none h hb hl o ho hg
  | some x =>
    obtain ⟨xo, xs, xu⟩ := x
    cases xu with
    | true => exact freeAhead_used h hb hl o ho xo xs hg
    | false => exact freeAhead_free h hb hl o ho xo xs hg

set_option maxHeartbeats 1000000 in
theorem takeOut_none (o : Int) :
    Calls Tryz.prog 98 #[.pointer (some ⟨g, 0, none⟩), .agg #[.int .i64 o, .int .i64 0, .bool false]] w fun e w' => e = .returned (.tuple #[]) ∧ Below w.heap.size w w' := by
  go_enter Tryz.func98, Tryz.ntmps98
  go_wp2
  go_end0
  exact ⟨rfl, (Below.refl _ _).alloc (Nat.le_refl _) _⟩
set_option maxHeartbeats 1000000 in
theorem takeOut_some (h : Ar w 92 g base cap A c bs) (hb : base ≤ 4611686018427387904) (hl : bs.length ≤ 16384) (o s : Nat) (ho : (o : Int) ≤ 9223372036854775807) (hs : (0 : Int) < (s : Int)) (out : List UInt8) (hy : takeB bs (o : Int) = some out) :
    Calls Tryz.prog 98 #[.pointer (some ⟨g, 0, none⟩), .agg #[.int .i64 (o : Int), .int .i64 (s : Int), .bool false]] w fun e w' => e = .returned (.tuple #[]) ∧ Became 92 g base cap A out w w' := by
  obtain ⟨w1, hw1⟩ : ∃ w1, w.alloc (.cells #[.int .i64 (o : Int), .int .i64 (s : Int), .bool false] 51) = w1 := ⟨_, rfl⟩
  have hb1 : Below w.heap.size w w1 := by rw [← hw1]; exact (Below.refl _ _).alloc (Nat.le_refl _) _
  have hT := takeC w1 g base cap c A bs (o : Int) _ (h.below hb1) hb hl (by omega) hy
  dsimp only [Done, errV] at hT
  have HT := Lib.hid hT
  have HW1 := Lib.hid hw1
  have HB1 := Lib.hid hb1
  clear hT hy hw1 hb1 h
  go_enter Tryz.func98, Tryz.ntmps98
  go_wp2_with fail
  rw [HW1.out]
  with_reducible refine HT.out.mono ?_
  rintro e w2 ⟨rfl, hb2⟩
  have HB2 := Lib.hid (hb2.after HB1.out)
  clear hb2 HT
  go_wp2
  go_end0
  exact ⟨rfl, HB2.out⟩
end

/-- A local block stays as it is. -/
def Loc (w w' : World) : Prop := ∀ (k : Nat) (cs : Array Value), w.heap[k]? = some (.cells cs 51 (0, 0)) → w'.heap[k]? = some (.cells cs 51 (0, 0))
theorem Loc.below {w w' : World} (h : Below w.heap.size w w') : Loc w w' := fun i _ hi => (h.block i (heap_lt hi)).trans hi
theorem ar_ne {w : World} {g base cap c : Nat} {A : Option Addr} {bs : List UInt8} (h : Ar w 92 g base cap A c bs) {k : Nat} {cs : Array Value} (hk : w.heap[k]? = some (.cells cs 51 (0, 0))) : ¬ foot g A k := by
  rintro (rfl | ⟨a, ea, rfl⟩)
  · have h1 := h.obj
    rw [hk] at h1
    injection h1 with h1
    injection h1 with _ h2 _
    exact absurd h2 (by decide)
  · obtain ⟨h', e, cur, h1, _⟩ := h.row ea
    rw [e] at hk
    have hk : w.heap[h']? = some (.cells cs 51 (0, 0)) := hk
    rw [hk] at h1
    injection h1 with h1
    injection h1 with _ h2 _
    exact absurd h2 (by decide)
theorem Loc.tch {w w' : World} {g base cap c : Nat} {A : Option Addr} {bs : List UInt8} (h : Ar w 92 g base cap A c bs) (ht : Tch (foot g A) w w') : Loc w w' := fun i _ hi => (ht.block i (heap_lt hi) (ar_ne h hi)).trans hi

section
variable {w w1 : World} {g base cap : Nat} {A : Option Addr} {b1 b2 : List UInt8}
/-- A local block is changed. -/
theorem became_loc {k : Nat} {cs : Array Value} (h : Became 92 g base cap A b1 w w1) (hk : w1.heap[k]? = some (.cells cs 51 (0, 0))) (hB : w.heap.size ≤ k) (i : Nat) (v : Value) : Became 92 g base cap A b1 w (w1.setCell ⟨k, i, none⟩ v) := by
  obtain ⟨A', c', a, tc, kk⟩ := h
  have hne := ar_ne a hk
  refine ⟨A', c', a.keep fun q hq => Below.heap_setCell w1 ⟨k, i, none⟩ v q (fun e => by have e : q = k := e; subst e; exact hne hq), ?_, kk⟩
  exact ⟨tc.os, tc.tape, tc.output, by simpa [World.setCell] using tc.size, fun q hq hn => (Below.heap_setCell w1 ⟨k, i, none⟩ v q (fun e => by have e : q = k := e; omega)).trans (tc.block q hq hn)⟩
theorem became_alloc (h : Became 92 g base cap A b1 w w1) (o : Obj) : Became 92 g base cap A b1 w (w1.alloc o) := became_below h ((Below.refl _ _).alloc (Nat.le_refl _) _)
theorem bc_at (h : Became 92 g base cap A b1 w w1) (hb : base ≤ 4611686018427387904) (hl : b1.length ≤ 16384) (o : Int) (ho : -9223372036854775808 ≤ o ∧ o ≤ 9223372036854775807) (y : Option Bk) (hy : frO (getB b1 o) = y) :
    Calls Tryz.prog 96 #[.pointer (some ⟨g, 0, none⟩), .int .i64 o] w1 fun e w2 => e = .returned (frV o y) ∧ Became 92 g base cap A b1 w w2 ∧ Below w1.heap.size w1 w2 := by
  obtain ⟨A', c', a, tc, k⟩ := h
  refine (freeAt_any a hb hl o ho y hy).mono ?_
  rintro e w2 ⟨h1, h2⟩
  exact ⟨h1, became_below ⟨A', c', a, tc, k⟩ h2, h2⟩
theorem bc_ahead (h : Became 92 g base cap A b1 w w1) (hb : base ≤ 4611686018427387904) (hl : b1.length ≤ 16384) (o : Int) (ho : -9223372036854775808 ≤ o ∧ o ≤ 9223372036854775807) (y : Option Bk) (hy : frO (aheadB b1 o) = y) :
    Calls Tryz.prog 97 #[.pointer (some ⟨g, 0, none⟩), .int .i64 o] w1 fun e w2 => e = .returned (frV o y) ∧ Became 92 g base cap A b1 w w2 ∧ Below w1.heap.size w1 w2 := by
  obtain ⟨A', c', a, tc, k⟩ := h
  refine (freeAhead_any a hb hl o ho y hy).mono ?_
  rintro e w2 ⟨h1, h2⟩
  exact ⟨h1, became_below ⟨A', c', a, tc, k⟩ h2, h2⟩
theorem bc_out (h : Became 92 g base cap A b1 w w1) (hb : base ≤ 4611686018427387904) (hl : b1.length ≤ 16384) (o : Int) (y : Option Bk) (hs : ∀ z, y = some z → 0 < z.size ∧ z.off ≤ 16384) (hy : outB b1 y = some b2) :
    Calls Tryz.prog 98 #[.pointer (some ⟨g, 0, none⟩), frV o y] w1 fun e w2 => e = .returned (.tuple #[]) ∧ Became 92 g base cap A b2 w w2 ∧ Loc w1 w2 := by
  cases y with
  | none =>
    injection hy with hy
    subst hy
    refine (takeOut_none o).mono ?_
    rintro e w2 ⟨h1, h2⟩
    exact ⟨h1, became_below h h2, Loc.below h2⟩
  | some z =>
    obtain ⟨A', c', a, tc, k⟩ := h
    have hz := hs z rfl
    refine (takeOut_some a hb hl z.off z.size (by omega) (by omega) b2 hy).mono ?_
    rintro e w2 ⟨h1, h2⟩
    have h2' := h2
    obtain ⟨_, _, _, ht, _⟩ := h2'
    exact ⟨h1, Became.trans a tc k h2, Loc.tch a ht⟩
theorem bc_set (h : Became 92 g base cap A b1 w w1) (hb : base ≤ 4611686018427387904) (hl : b1.length ≤ 16384) (o s : Nat) (u : Bool) (ho : o ≤ 16384) (hs : s ≤ 16384) (hy : setB b1 (o : Int) (s : Int) u = some b2) :
    Calls Tryz.prog 99 #[.pointer (some ⟨g, 0, none⟩), .agg #[.int .i64 (o : Int), .int .i64 (s : Int), .bool u]] w1 fun e w2 => e = .returned .nilIface ∧ Became 92 g base cap A b2 w w2 ∧ Loc w1 w2 := by
  obtain ⟨A', c', a, tc, k⟩ := h
  refine (setC w1 g base cap c' A' b1 (o : Int) (s : Int) u _ a hb hl (by omega) (by omega) hy).mono ?_
  rintro e w2 ⟨h1, h2⟩
  have h2' := h2
  obtain ⟨_, _, _, ht, _⟩ := h2'
  exact ⟨h1, Became.trans a tc k h2, Loc.tch a ht⟩
theorem bc_put (h : Became 92 g base cap A b1 w w1) (hb : base ≤ 4611686018427387904) (hl : b1.length ≤ 16384) (o : Nat) (ho : o ≤ 16384) (hy : putB b1 (o : Int) = some b2) :
    Calls Tryz.prog 100 #[.pointer (some ⟨g, 0, none⟩), .int .i64 (o : Int)] w1 fun e w2 => e = .returned .nilIface ∧ Became 92 g base cap A b2 w w2 ∧ Loc w1 w2 := by
  obtain ⟨A', c', a, tc, k⟩ := h
  refine (putC w1 g base cap c' A' b1 (o : Int) _ a hb hl (by omega) hy).mono ?_
  rintro e w2 ⟨h1, h2⟩
  have h2' := h2
  obtain ⟨_, _, _, ht, _⟩ := h2'
  exact ⟨h1, Became.trans a tc k h2, Loc.tch a ht⟩
theorem bc_grow (h : Became 92 g base cap A b1 w w1) (n : Nat) (hl : b1.length ≤ cap) (hcap : cap ≤ 16384) (hn : b1.length + n ≤ cap) :
    Calls Tryz.prog 20 #[.pointer (some ⟨g, 0, none⟩), .int .i64 (n : Int)] w1 fun e w2 => e = .returned .nilIface ∧ Became 92 g base cap A (b1 ++ List.replicate n 0) w w2 ∧ Loc w1 w2 := by
  obtain ⟨A', c', a, tc, k⟩ := h
  refine (grow_ok a n hl hcap hn).mono ?_
  rintro e w2 ⟨h1, h2⟩
  have h2' := h2
  obtain ⟨_, _, _, ht, _⟩ := h2'
  exact ⟨h1, Became.trans a tc k h2, Loc.tch a ht⟩
end
end Go.Proofs.YtbemaoncakcnjaaGreat

/- The program's giving back (layer 12): a used block becomes free, and one with its free neighbours. -/
namespace Go.Proofs.YtbemaoncakcnjaaGreat
open Go.RowKit

theorem frV_eq (o : Int) (y : Option Bk) : frV o y = .agg #[.int .i64 ((y.map fun z => (z.off : Int)).getD o), .int .i64 (((y.map Bk.size).getD 0 : Nat) : Int), .bool false] := by cases y <;> rfl
theorem setB_range {bs out : List UInt8} {o s : Int} {u : Bool} (h : setB bs o s u = some out) : 184 ≤ o ∧ 32 ≤ s ∧ o + s ≤ bs.length := by
  unfold setB at h
  split at h
  · rename_i hc
    have h1 := (isSz_iff _).1 hc.1
    have h2 := (could_iff _ _ _).1 hc.2
    omega
  · cases h
theorem Rt.bound {bs : List UInt8} {H : Hp} (h : Rt bs H) (hc : H.cap ≤ 16384) : bs.length ≤ 16384 ∧ ∀ y ∈ H.blks, 184 ≤ y.off ∧ 32 ≤ y.size ∧ y.off + y.size ≤ bs.length := by
  have hM := h.md hc
  refine ⟨hM.ls.small, fun y hy => ?_⟩
  have := hM.ls.st.facts hy
  omega

/-- A struct of a block is stored. -/
theorem wpl_blk {ops : Array Oper} {Q : Exit → Act → World → Prop} {o : Oper} {rest : List Oper} {a : Act} {w : World} {x y : Operand} {gx : Nat} {p q : Int} {r : Bool} {v0 v1 v2 : Value} (ho : o.op = .store 51 x y) (hd : o.dst = none)
    (hw : Region.wanted o (yielded ops a.tmps) = true) (hx : a.eval x = .pointer (some ⟨gx, 0, none⟩)) (hy : a.eval y = .agg #[.int .i64 p, .int .i64 q, .bool r]) (h : w.heap[gx]? = some (.cells #[v0, v1, v2] 51 (0, 0)))
    (hk : ∀ w', w'.heap[gx]? = some (.cells #[.int .i64 p, .int .i64 q, .bool r] 51 (0, 0)) → (∀ k, k ≠ gx → w'.heap[k]? = w.heap[k]?) → (∀ B, B ≤ gx → Below B w w') → wpList Tryz.prog ops Q rest a w') : wpList Tryz.prog ops Q (o :: rest) a w := by
  unfold wpList
  rw [if_pos hw]
  refine .inl ?_
  unfold Oper.wp
  rw [store_blk a.eval o x y ho w gx p q r v0 v1 v2 hx hy h]
  show wpList Tryz.prog ops Q rest (a.put o.dst undef) _
  rw [hd]
  refine hk _ (blk_set h _ _ _) (fun k hk => ?_) fun B hB => ?_
  · exact (Below.heap_setCell _ ⟨gx, 2, none⟩ _ k hk).trans ((Below.heap_setCell _ ⟨gx, 1, none⟩ _ k hk).trans (Below.heap_setCell _ ⟨gx, 0, none⟩ _ k hk))
  · exact (((Below.refl _ _).setCell (p := ⟨gx, 0, none⟩) hB _).setCell (p := ⟨gx, 1, none⟩) hB _).setCell (p := ⟨gx, 2, none⟩) hB _

section
variable {w : World} {g base cap c : Nat} {A : Option Addr} {bs : List UInt8} {H : Hp}
set_option maxRecDepth 100000 in
set_option maxHeartbeats 2000000 in
theorem giveBack_any (h : Ar w 92 g base cap A c bs) (hbase : base ≤ 4611686018427387904) (hcap : cap ≤ 16384) (hc : H.cap = cap) (hR : Rt bs H) {A1 B1 : List Bk} {p n : Option Bk} {xo xs : Nat}
    (hb : H.blks = (A1 ++ p.toList) ++ ⟨xo, xs, true⟩ :: (n.toList ++ B1)) (hN : Near A1 p n B1) :
    Calls Tryz.prog 63 #[.pointer (some ⟨g, 0, none⟩), .agg #[.int .i64 (xo : Int), .int .i64 (xs : Int), .bool true]] w fun e w' => e = .returned .nilIface ∧ ∃ out, Became 92 g base cap A out w w' ∧ Rt out (H.give (A1 ++ p.toList).length) ∧
      ∀ z ∈ H.blks, z.used = true → z ≠ ⟨xo, xs, true⟩ → ∀ i, Pay z i → out[i]? = bs[i]? := by
  obtain ⟨b1, b2, out, e1, e2, e3, e4, l1, l2, l3, l4, hRo, hP⟩ := hR.gives (by omega) hb hN rfl
  have hM := hR.md (by omega)
  obtain ⟨hl, hbd⟩ := hR.bound (by omega)
  have y1 := hM.behind hb hN
  have y2 := hM.ahead hb hN
  have hx := hbd ⟨xo, xs, true⟩ (by rw [hb]; simp)
  have hn : ∀ z, n = some z → 0 < z.size ∧ z.off ≤ 16384 := fun z hz => by have := hbd z (by rw [hb, hz]; simp); omega
  have hp : ∀ z, p = some z → 0 < z.size ∧ z.off ≤ 16384 := fun z hz => by have := hbd z (by rw [hb, hz]; simp); omega
  have r3 := setB_range e3
  obtain ⟨s3, hs3⟩ : ∃ s3, setT b2 (whole p ⟨xo, xs, true⟩ n) = s3 := ⟨_, rfl⟩
  rw [hs3] at e3 e4 l3
  obtain ⟨wo, hwo⟩ : ∃ wo, (whole p ⟨xo, xs, true⟩ n).off = wo := ⟨_, rfl⟩
  obtain ⟨ws, hws⟩ : ∃ ws, (whole p ⟨xo, xs, true⟩ n).size = ws := ⟨_, rfl⟩
  rw [hwo, hws] at e3 r3
  rw [hwo] at e4
  have f1 := frV_eq ((xo : Int) + (xs : Int)) n
  have f2 := frV_eq (xo : Int) p
  obtain ⟨no, hno⟩ : ∃ no : Int, (n.map fun z => (z.off : Int)).getD ((xo : Int) + (xs : Int)) = no := ⟨_, rfl⟩
  obtain ⟨nz, hnz⟩ : ∃ nz, (n.map Bk.size).getD 0 = nz := ⟨_, rfl⟩
  obtain ⟨pz, hpz⟩ : ∃ pz, (p.map Bk.size).getD 0 = pz := ⟨_, rfl⟩
  have hpo : (p.map fun z => (z.off : Int)).getD (xo : Int) = (wo : Int) := by rw [← hwo]; cases p <;> rfl
  rw [hno, hnz] at f1
  rw [hpo, hpz] at f2
  have hwe : ws = pz + xs + nz := by rw [← hws, ← hpz, ← hnz]; rfl
  dsimp only at y1 y2 hx
  -- the box
  obtain ⟨w1, hw1⟩ : ∃ w1, w.alloc (.cells #[.int .i64 (xo : Int), .int .i64 (xs : Int), .bool true] 51) = w1 := ⟨_, rfl⟩
  have hb1 : Below w.heap.size w w1 := by rw [← hw1]; exact (Below.refl _ _).alloc (Nat.le_refl _) _
  have n1 : w1.heap[w.heap.size]? = some (.cells #[.int .i64 (xo : Int), .int .i64 (xs : Int), .bool true] 51 (0, 0)) := by rw [← hw1]; exact heap_alloc_new w _
  have N1 := Lib.hid n1
  have BC0 : Became 92 g base cap A bs w w := ⟨A, c, h, Tch.refl _ _, .inl rfl⟩
  have BC1 := Lib.hid (became_below BC0 hb1.drew)
  clear BC0
  obtain ⟨⟨d0, d1, d2⟩, _⟩ := blk_cells n1
  have hlt1 := heap_lt n1
  have HW1 := Lib.hid hw1
  clear hw1 hb1 n1 h
  have HH := Lib.hid (show ∀ w', Became 92 g base cap A out w w' → ((Ending.returned .nilIface : Ending) = .returned .nilIface ∧ ∃ out, Became 92 g base cap A out w w' ∧ Rt out (H.give (A1 ++ p.toList).length) ∧ ∀ z ∈ H.blks, z.used = true → z ≠ ⟨xo, xs, true⟩ → ∀ i, Pay z i → out[i]? = bs[i]?) from fun w' hh => ⟨rfl, out, hh, hRo, hP⟩)
  clear hRo hP hM hbd hb hN hR
  go_enter Tryz.func63, Tryz.ntmps63
  go_wp2_with (first | (rw [HW1.out]) | fail)
  refine wp_region_q w1.heap.size [0, 1, 2, 3, 4, 5, 7, 8, 9] (pairQ 6 10 11 12) [13, 14] (by kernel_rfl) (by kernel_rfl) (by kernel_rfl) (fun _ _ _ _ _ h => h) ?_
  have q0 : ∀ z : LaterB w1.heap.size w1.drew, z.val.cell? ⟨w.heap.size, 0, none⟩ = some (.int .i64 (xo : Int)) := fun z => (z.ext.cell (p := ⟨w.heap.size, 0, none⟩) hlt1).trans d0
  have q1 : ∀ z : LaterB w1.heap.size w1.drew, z.val.cell? ⟨w.heap.size, 1, none⟩ = some (.int .i64 (xs : Int)) := fun z => (z.ext.cell (p := ⟨w.heap.size, 1, none⟩) hlt1).trans d1
  refine q_pick (l := ?seg1) ?hseg1 ?_
  case hseg1 => simp only [pick, List.getElem?_toArray, List.getElem?_cons_succ, List.getElem?_cons_zero]; rfl
  repeat (go_big_quiet_step (fail))
  refine wpQuiet_nil ?_
  clear q0 q1
  refine qpair_any (S := [7, 12, 14, 16]) (d1 := 13) (d2 := 17) (e1 := 5) (e2 := 6) (v1 := frV ((xo : Int) + (xs : Int)) n) (v2 := frV (xo : Int) p) (cs := #[.int .i64 0, .int .i64 0, .bool false]) (ty := 51) (w0 := w1.drew) ⟨?_, ?_, ?_, ?_, by decide, by decide, by decide, by decide, by decide, rfl, ?_⟩
  · refine stp_call (vs := #[.pointer (some ⟨g, 0, none⟩), .int .i64 ((xo : Int) + (xs : Int))]) Tryz.call96 rfl (fun a ha => ?_) fun W hW => ?_
    · show [a.tmps.getD 7 undef, a.tmps.getD 12 undef] = _
      rw [ha 7 (by decide), ha 12 (by decide)]
      rfl
    · refine (bc_at (became_below BC1.out hW) hbase hl _ ⟨by omega, by omega⟩ n y1).mono ?_
      rintro e w' ⟨h1, h2, h3⟩
      exact ⟨h1, h3⟩
  · refine stp_call (vs := #[.pointer (some ⟨g, 0, none⟩), .int .i64 (xo : Int)]) Tryz.call97 rfl (fun a ha => ?_) fun W hW => ?_
    · show [a.tmps.getD 14 undef, a.tmps.getD 16 undef] = _
      rw [ha 14 (by decide), ha 16 (by decide)]
      rfl
    · refine (bc_ahead (became_below BC1.out hW) hbase hl _ ⟨by omega, by omega⟩ p y2).mono ?_
      rintro e w' ⟨h1, h2, h3⟩
      exact ⟨h1, h3⟩
  · exact stp_alloc rfl rfl (fun _ => rfl) fun ρ w => alloc_blk ρ _ rfl w
  · exact stp_alloc rfl rfl (fun _ => rfl) fun ρ w => alloc_blk ρ _ rfl w
  intro p1 p2 w5 k1 k2 kne m1 m2 hb5
  rw [f1, f2]
  unfold ptrV
  refine q_fin (t := ?tl1) ?htl1 ?_
  case htl1 => simp only [pick, List.getElem?_toArray, List.getElem?_cons_succ, List.getElem?_cons_zero]; rfl
  simp only [Act.put, List.setIfInBounds_toArray, List.set_cons_zero, List.set_cons_succ]
  refine wpl_blk (gx := p1) (p := no) (q := (nz : Int)) (r := false) rfl rfl rfl rfl rfl m1 ?_
  intro w6 n6 k6 b6
  refine wpl_blk (gx := p2) (p := (wo : Int)) (q := (pz : Int)) (r := false) rfl rfl rfl rfl rfl ((k6 p2 (Ne.symm kne)).trans m2) ?_
  intro w7 n7 k7 b7
  have hb7 : Below w1.heap.size w1.drew w7 := (hb5.trans (b6 _ k1)).trans (b7 _ k2)
  have n6 := (k7 p1 kne).trans n6
  have nb := (hb7.block w.heap.size hlt1).trans N1.out
  have BC7 := Lib.hid (became_below BC1.out hb7)
  have h1 := bc_out BC7.out hbase hl ((xo : Int) + (xs : Int)) n hn e1
  rw [f1] at h1
  have H1 := Lib.hid h1
  have K1 := Lib.hid k1
  have K2 := Lib.hid k2
  have KN := Lib.hid kne
  clear h1 hb5 hb7 k6 k7 b6 b7 m1 m2 d0 d1 d2 k1 k2 kne
  have NB := Lib.hid nb
  have N6 := Lib.hid n6
  have N7 := Lib.hid n7
  obtain ⟨⟨c0, c1, c2⟩, _⟩ := blk_cells n6
  clear nb n6 n7
  have hlt6 := heap_lt' N6.out
  go_wp2_with fail
  refine H1.out.mono ?_
  clear c0 c1 c2 hlt6
  rintro e w8 ⟨rfl, hB8, hL8⟩
  have n6 := hL8 _ _ N6.out
  have n7 := hL8 _ _ N7.out
  have nb := hL8 _ _ NB.out
  have h2 := bc_out hB8 hbase (by omega) (xo : Int) p hp e2
  rw [f2] at h2
  have H2 := Lib.hid h2
  clear N6 N7 NB BC7 BC1 h2 hL8 hB8 H1
  have NB := Lib.hid nb
  have N6 := Lib.hid n6
  have N7 := Lib.hid n7
  obtain ⟨⟨c0, c1, c2⟩, _⟩ := blk_cells n7
  clear nb n6 n7
  have hlt7 := heap_lt' N7.out
  go_wp2_with fail
  refine H2.out.mono ?_
  clear c0 c1 c2 hlt7
  rintro e w9 ⟨rfl, hB9, hL9⟩
  have n6 := hL9 _ _ N6.out
  have n7 := hL9 _ _ N7.out
  have nb := hL9 _ _ NB.out
  have h3 := bc_set hB9 hbase (by omega) wo ws false (by omega) (by omega) e3
  rw [hwe, Int.natCast_add, Int.natCast_add] at h3
  have H3 := Lib.hid h3
  clear N6 N7 NB h3 hL9 hB9 H2
  have N7 := Lib.hid n7
  obtain ⟨⟨c0, c1, c2⟩, _⟩ := blk_cells n7
  obtain ⟨⟨d0, d1, d2⟩, _⟩ := blk_cells nb
  obtain ⟨⟨g0, g1, g2⟩, _⟩ := blk_cells n6
  have hlt7 := heap_lt' n7
  have hlt6 := heap_lt' n6
  have hltb := heap_lt' nb
  clear nb n6 n7
  go_wp2_with fail
  refine H3.out.mono ?_
  clear c0 c1 c2 d0 d1 d2 g0 g1 g2 hlt7 hlt6 hltb
  rintro e w10 ⟨rfl, hB10, hL10⟩
  have n7 := hL10 _ _ N7.out
  have h4 := bc_put hB10 hbase (by omega) wo (by omega) e4
  have H4 := Lib.hid h4
  clear N7 h4 hL10 hB10 H3
  obtain ⟨⟨c0, c1, c2⟩, _⟩ := blk_cells n7
  have hlt7 := heap_lt' n7
  clear n7
  go_wp2_with fail
  refine H4.out.mono ?_
  clear c0 c1 c2 hlt7
  rintro e w11 ⟨rfl, hB11, hL11⟩
  have HB := Lib.hid hB11
  clear hB11 hL11 H4
  go_wp2
  go_ret
  exact ⟨rfl, (HH.out _ HB.out).2⟩
theorem bc_give {w1 : World} (h : Became 92 g base cap A bs w w1) (hbase : base ≤ 4611686018427387904) (hcap : cap ≤ 16384) (hc : H.cap = cap) (hR : Rt bs H) {A1 B1 : List Bk} {p n : Option Bk} {xo xs : Nat}
    (hb : H.blks = (A1 ++ p.toList) ++ ⟨xo, xs, true⟩ :: (n.toList ++ B1)) (hN : Near A1 p n B1) :
    Calls Tryz.prog 63 #[.pointer (some ⟨g, 0, none⟩), .agg #[.int .i64 (xo : Int), .int .i64 (xs : Int), .bool true]] w1 fun e w2 => e = .returned .nilIface ∧ ∃ out, Became 92 g base cap A out w w2 ∧ Rt out (H.give (A1 ++ p.toList).length) ∧
      ∀ z ∈ H.blks, z.used = true → z ≠ ⟨xo, xs, true⟩ → ∀ i, Pay z i → out[i]? = bs[i]? := by
  obtain ⟨A', c', a, tc, k⟩ := h
  refine (giveBack_any a hbase hcap hc hR hb hN).mono ?_
  rintro e w2 ⟨h1, out, h2, h3⟩
  exact ⟨h1, out, Became.trans a tc k h2, h3⟩
end
end Go.Proofs.YtbemaoncakcnjaaGreat

/- The program's cut (layer 12): what is left of a used block is given back, if it can be a block. -/
namespace Go.Proofs.YtbemaoncakcnjaaGreat
open Go.RowKit

section
variable {w w1 : World} {g base cap : Nat} {A : Option Addr} {bs : List UInt8} {H : Hp}
set_option maxRecDepth 100000 in
set_option maxHeartbeats 2000000 in
theorem cut_small (h : Became 92 g base cap A bs w w1) (hR : Rt bs H) {A0 B0 : List Bk} {xo xs s : Nat} (hb : H.blks = A0 ++ ⟨xo, xs, true⟩ :: B0) (hxo : xo ≤ 16384) (hxs : xs ≤ 16384) (hle : s ≤ xs) (hlt : xs < s + 32) :
    Calls Tryz.prog 66 #[.pointer (some ⟨g, 0, none⟩), .agg #[.int .i64 (xo : Int), .int .i64 (xs : Int), .bool true], .int .i64 (s : Int)] w1 fun e w2 => e = .returned .nilIface ∧ ∃ out, Became 92 g base cap A out w w2 ∧ Rt out (H.cut A0.length s) ∧
      Held H bs (H.cut A0.length s) out ∧ ∀ z ∈ H.blks, z.used = true → z.off ≠ xo → ∀ i, Pay z i → out[i]? = bs[i]? := by
  obtain ⟨hR2, hH⟩ := hR.uncut hb hlt
  have HRH := Lib.hid (show Rt bs (H.cut A0.length s) ∧ Held H bs (H.cut A0.length s) bs ∧ ∀ z ∈ H.blks, z.used = true → z.off ≠ xo → ∀ i, Pay z i → bs[i]? = bs[i]? from ⟨hR2, hH, fun _ _ _ _ _ _ => rfl⟩)
  obtain ⟨wa, hwa⟩ : ∃ wa, w1.alloc (.cells #[.int .i64 (xo : Int), .int .i64 (xs : Int), .bool true] 51) = wa := ⟨_, rfl⟩
  have na : wa.heap[w1.heap.size]? = some (.cells #[.int .i64 (xo : Int), .int .i64 (xs : Int), .bool true] 51 (0, 0)) := by rw [← hwa]; exact heap_alloc_new w1 _
  have BCa := became_alloc h (.cells #[.int .i64 (xo : Int), .int .i64 (xs : Int), .bool true] 51)
  rw [hwa] at BCa
  obtain ⟨wb, hwb⟩ : ∃ wb, wa.alloc (.cells #[.int .i64 ((xo : Int) + (s : Int)), .int .i64 ((xs : Int) - (s : Int)), .bool true] 51) = wb := ⟨_, rfl⟩
  have nb : wb.heap[wa.heap.size]? = some (.cells #[.int .i64 ((xo : Int) + (s : Int)), .int .i64 ((xs : Int) - (s : Int)), .bool true] 51 (0, 0)) := by rw [← hwb]; exact heap_alloc_new wa _
  have BCb := became_alloc BCa (.cells #[.int .i64 ((xo : Int) + (s : Int)), .int .i64 ((xs : Int) - (s : Int)), .bool true] 51)
  rw [hwb] at BCb
  have HB := Lib.hid BCb
  have HWA := Lib.hid hwa
  have HWB := Lib.hid hwb
  obtain ⟨⟨c0, c1, c2⟩, _⟩ := blk_cells na
  obtain ⟨⟨d0, d1, d2⟩, _⟩ := blk_cells nb
  have hlta := heap_lt' na
  have hltb := heap_lt' nb
  clear hR2 hH hR hwa hwb BCa BCb h na nb hb
  go_enter Tryz.func66, Tryz.ntmps66
  go_wp2_with (first | (rw [HWA.out]) | (rw [HWB.out]) | fail)
  go_ret
  exact ⟨rfl, bs, HB.out, HRH.out.1, HRH.out.2.1, fun _ _ _ _ _ _ => rfl⟩
set_option maxRecDepth 100000 in
set_option maxHeartbeats 2000000 in
theorem cut_big (h : Became 92 g base cap A bs w w1) (hbase : base ≤ 4611686018427387904) (hcap : cap ≤ 16384) (hc : H.cap = cap) (hR : Rt bs H) {A0 B0 : List Bk} {xo xs s : Nat} (hb : H.blks = A0 ++ ⟨xo, xs, true⟩ :: B0) (hs : isSz (s : Int) = true) (hle : s + 32 ≤ xs) :
    Calls Tryz.prog 66 #[.pointer (some ⟨g, 0, none⟩), .agg #[.int .i64 (xo : Int), .int .i64 (xs : Int), .bool true], .int .i64 (s : Int)] w1 fun e w2 => e = .returned .nilIface ∧ ∃ out, Became 92 g base cap A out w w2 ∧ Rt out (H.cut A0.length s) ∧
      Held H bs (H.cut A0.length s) out ∧ ∀ z ∈ H.blks, z.used = true → z.off ≠ xo → ∀ i, Pay z i → out[i]? = bs[i]? := by
  obtain ⟨b1, b2, H1, A1, B1, p, n, e1, e2, l1, l2, hc1, hR1, hb1, hN, hcut, hP⟩ := hR.cutting (by omega) hb hs hle
  obtain ⟨hl, hbd⟩ := hR.bound (by omega)
  have hx := hbd ⟨xo, xs, true⟩ (by rw [hb]; simp)
  dsimp only at hx
  have hq := (isSz_iff _).1 hs
  have HG := Lib.hid (fun w3 (h3 : Became 92 g base cap A b2 w w3) => bc_give h3 hbase hcap (by omega) hR1 hb1 hN)
  rw [hcut] at HG
  have HP := Lib.hid hP
  obtain ⟨wa, hwa⟩ : ∃ wa, w1.alloc (.cells #[.int .i64 (xo : Int), .int .i64 (xs : Int), .bool true] 51) = wa := ⟨_, rfl⟩
  have na : wa.heap[w1.heap.size]? = some (.cells #[.int .i64 (xo : Int), .int .i64 (xs : Int), .bool true] 51 (0, 0)) := by rw [← hwa]; exact heap_alloc_new w1 _
  have BCa := became_alloc h (.cells #[.int .i64 (xo : Int), .int .i64 (xs : Int), .bool true] 51)
  rw [hwa] at BCa
  obtain ⟨wb, hwb⟩ : ∃ wb, wa.alloc (.cells #[.int .i64 ((xo : Int) + (s : Int)), .int .i64 ((xs : Int) - (s : Int)), .bool true] 51) = wb := ⟨_, rfl⟩
  have nb : wb.heap[wa.heap.size]? = some (.cells #[.int .i64 ((xo : Int) + (s : Int)), .int .i64 ((xs : Int) - (s : Int)), .bool true] 51 (0, 0)) := by rw [← hwb]; exact heap_alloc_new wa _
  have nab : wb.heap[w1.heap.size]? = some (.cells #[.int .i64 (xo : Int), .int .i64 (xs : Int), .bool true] 51 (0, 0)) := by rw [← hwb]; exact (heap_alloc_old _ _ (heap_lt na)).trans na
  have BCb := became_alloc BCa (.cells #[.int .i64 ((xo : Int) + (s : Int)), .int .i64 ((xs : Int) - (s : Int)), .bool true] 51)
  rw [hwb] at BCb
  have hsz : w.heap.size ≤ w1.heap.size := by obtain ⟨_, _, _, ht, _⟩ := h; exact ht.size
  obtain ⟨wc, hwc⟩ : ∃ wc, wb.setCell ⟨w1.heap.size, 1, none⟩ (.int .i64 (s : Int)) = wc := ⟨_, rfl⟩
  have nac := heap_setCell_same wb w1.heap.size 1 _ _ (.int .i64 (s : Int)) nab
  have nbc := (Below.heap_setCell wb ⟨w1.heap.size, 1, none⟩ (.int .i64 (s : Int)) wa.heap.size (fun e => by have := heap_lt na; have e : wa.heap.size = w1.heap.size := e; omega)).trans nb
  have BCc := became_loc BCb nab hsz 1 (.int .i64 (s : Int))
  rw [hwc] at nac nbc BCc
  have nac : wc.heap[w1.heap.size]? = some (.cells #[.int .i64 (xo : Int), .int .i64 (s : Int), .bool true] 51 (0, 0)) := nac
  have h1 := bc_set BCc hbase hl xo s true (by omega) (by omega) e1
  have H1' := Lib.hid h1
  have E2 := Lib.hid e2
  have NBC := Lib.hid nbc
  have HWA := Lib.hid hwa
  have HWB := Lib.hid hwb
  have HWC := Lib.hid hwc
  have NAC := Lib.hid nac
  obtain ⟨⟨d0, d1, d2⟩, _⟩ := blk_cells nb
  obtain ⟨⟨u0, u1, u2⟩, _⟩ := blk_cells na
  obtain ⟨⟨c0, c1, c2⟩, f0, f1, f2⟩ := blk_cells nab
  obtain ⟨⟨g0, g1, g2⟩, _⟩ := blk_cells nac
  have hlta := heap_lt' na
  have hltb := heap_lt' nb
  have hltc := heap_lt' nab
  clear hR hwa hwb hwc BCa BCb BCc h na nb nab nac nbc hb hR1 hb1 hN hcut hP h1 e1 e2 hbd
  go_enter Tryz.func66, Tryz.ntmps66
  go_wp2_with (first | (rw [HWA.out]) | (rw [HWB.out]) | (rw [HWC.out]) | fail)
  refine H1'.out.mono ?_
  clear d0 d1 d2 u0 u1 u2 c0 c1 c2 f0 f1 f2 g0 g1 g2 hlta hltb hltc
  rintro e wd ⟨rfl, hB1, hL1⟩
  have nb := hL1 _ _ NBC.out
  have h2 := bc_set hB1 hbase (by omega) (xo + s) (xs - s) true (by omega) (by omega) E2.out
  have en : ((xo + s : Nat) : Int) = (xo : Int) + (s : Int) := Int.natCast_add _ _
  have em : ((xs - s : Nat) : Int) = (xs : Int) - (s : Int) := Int.ofNat_sub (by omega)
  rw [en, em] at h2
  have H2 := Lib.hid h2
  have EN := Lib.hid en
  have EM := Lib.hid em
  have NB := Lib.hid nb
  clear hB1 hL1 NBC NAC HWA HWB HWC H1' h2 E2 en em
  obtain ⟨⟨d0, d1, d2⟩, _⟩ := blk_cells nb
  have hltb := heap_lt' nb
  clear nb
  go_wp2_with fail
  refine H2.out.mono ?_
  clear d0 d1 d2 hltb
  rintro e we ⟨rfl, hB2, hL2⟩
  have nb := hL2 _ _ NB.out
  have h3 := HG.out we hB2
  rw [EN.out, EM.out] at h3
  have H3 := Lib.hid h3
  clear hB2 hL2 NB H2 h3 HG
  obtain ⟨⟨d0, d1, d2⟩, _⟩ := blk_cells nb
  have hltb := heap_lt' nb
  clear nb
  go_wp2_with fail
  refine H3.out.mono ?_
  clear d0 d1 d2 hltb
  rintro e wf ⟨rfl, out, hB, hR, hP⟩
  have HB := Lib.hid hB
  have HR := Lib.hid hR
  have HPP := Lib.hid (HP.out out hP)
  clear hB hR hP H3 HP
  go_wp2
  go_ret
  exact ⟨rfl, out, HB.out, HR.out, HPP.out.1, HPP.out.2⟩
theorem cut_any (h : Became 92 g base cap A bs w w1) (hbase : base ≤ 4611686018427387904) (hcap : cap ≤ 16384) (hc : H.cap = cap) (hR : Rt bs H) {A0 B0 : List Bk} {xo xs s : Nat} (hb : H.blks = A0 ++ ⟨xo, xs, true⟩ :: B0) (hs : isSz (s : Int) = true) (hle : s ≤ xs) :
    Calls Tryz.prog 66 #[.pointer (some ⟨g, 0, none⟩), .agg #[.int .i64 (xo : Int), .int .i64 (xs : Int), .bool true], .int .i64 (s : Int)] w1 fun e w2 => e = .returned .nilIface ∧ ∃ out, Became 92 g base cap A out w w2 ∧ Rt out (H.cut A0.length s) ∧
      Held H bs (H.cut A0.length s) out ∧ ∀ z ∈ H.blks, z.used = true → z.off ≠ xo → ∀ i, Pay z i → out[i]? = bs[i]? := by
  obtain ⟨hl, hbd⟩ := hR.bound (by omega)
  have hx := hbd ⟨xo, xs, true⟩ (by rw [hb]; simp)
  dsimp only at hx
  by_cases hlt : xs < s + 32
  · exact cut_small h hR hb (by omega) (by omega) hle hlt
  · exact cut_big h hbase hcap hc hR hb hs (by omega)
end
end Go.Proofs.YtbemaoncakcnjaaGreat

/- The contracts of the program's Used, Give, Trim (layer 12). -/
namespace Go.Proofs.YtbemaoncakcnjaaGreat
open Go.RowKit

theorem used_hit {l : List Bk} {e : Nat} (ht : tile 184 l e) {j : Nat} {x : Bk} {o : Int} (hx : l[j]? = some x) (ho : (x.off : Int) = o) (hu : x.used = true) : (usedB l o).map (bkAt l) = some x := by
  have hxm := List.mem_of_getElem? hx
  obtain ⟨i, h1, h2, h3⟩ := atB_of ht hxm
  unfold usedB
  rw [← ho, h1]
  dsimp only
  rw [h3, hu, if_pos rfl, Option.map_some, h3]
theorem used_miss {l : List Bk} {o : Int} (h : ∀ (i : Nat) (x : Bk), l[i]? = some x → ¬((x.off : Int) = o ∧ x.used = true)) : usedB l o = none := by
  unfold usedB
  cases hi : atB o l with
  | none => rfl
  | some i =>
    obtain ⟨x, h1, h2⟩ := atB_some hi
    dsimp only
    rw [if_neg]
    intro hu
    rw [bkAt_of h1] at hu
    exact h i x h1 ⟨h2, hu⟩
theorem used_at {l : List Bk} {o : Int} {i : Nat} (h : usedB l o = some i) : i < l.length ∧ ((bkAt l i).off : Int) = o ∧ (bkAt l i).used = true := by
  unfold usedB at h
  cases hi : atB o l with
  | none => rw [hi] at h; cases h
  | some k =>
    rw [hi] at h
    dsimp only at h
    split at h
    · rename_i hu
      injection h with h
      subst h
      obtain ⟨x, h1, h2⟩ := atB_some hi
      exact ⟨lst_lt h1, by rw [bkAt_of h1]; exact h2, hu⟩
    · cases h
theorem below_in {B : Nat} {w w' : World} (h : Below B w w') {b j : Nat} {v : Value} (hc : w.cell? ⟨b, j, none⟩ = some v) (hb : b < B) : w'.cell? ⟨b, j, none⟩ = some v :=
  (h.cell (p := ⟨b, j, none⟩) hb).trans hc

set_option maxRecDepth 100000 in
set_option maxHeartbeats 1000000 in
theorem usedK : UsedK := by
  intro w g base cap c A bs H o h hb hcap hc hR ho
  obtain ⟨l, hl⟩ : ∃ l, H.blks = l := ⟨_, rfl⟩
  rw [hl]
  have hwk := hR.walk
  rw [hl] at hwk
  have ht := (walkB_tiles hwk).2.1
  have hbl := (hR.bound (by omega)).1
  have hll := walkB_len hwk
  obtain ⟨y, hy⟩ : ∃ y, (usedB l o).map (bkAt l) = y := ⟨_, rfl⟩
  rw [hy]
  have HHIT : Hid (∀ (j : Nat) (x : Bk), l[j]? = some x → (x.off : Int) = o → x.used = true → some x = y) := fun j x hx ho hu => by rw [← hy]; exact (used_hit ht hx ho hu).symm
  have HMISS : Hid ((∀ (i : Nat) (x : Bk), l[i]? = some x → ¬((x.off : Int) = o ∧ x.used = true)) → none = y) := fun hm => by rw [← hy, used_miss hm]; rfl
  obtain ⟨w1, hw1⟩ : ∃ w1, w.alloc (.cells #[.int .i64 0, .int .i64 0, .bool false] 51) = w1 := ⟨_, rfl⟩
  have hb1 : Below w.heap.size w w1 := by rw [← hw1]; exact (Below.refl _ _).alloc (Nat.le_refl _) _
  have hn1 : w1.heap[w.heap.size]? = some (.cells #[.int .i64 0, .int .i64 0, .bool false] 51 (0, 0)) := by rw [← hw1]; exact heap_alloc_new w _
  have hW := walkC w1 g base cap c A bs _ (h.below hb1) hb hbl hwk
  dsimp only [BlksTold, Option.isSome, Option.getD, errV] at hW
  have HW := Lib.hid hW
  have HW1 := Lib.hid hw1
  have HB1 := Lib.hid hb1
  have HN1 := Lib.hid hn1
  clear hW hw1 hb1 hn1 h hR hwk ht hy hl hb hcap hc
  go_enter Tryz.func40, Tryz.ntmps40
  go_wp2_with fail
  rw [HW1.out]
  with_reducible refine HW.out.mono ?_
  rintro e w2 ⟨A2, c2, rfl, ho2, hb2⟩
  have hcl : l.length ≤ c2 ∧ c2 ≤ 9223372036854775807 := by
    rcases ho2.2 with ⟨h', h0⟩ | ⟨_, _, _, h', _, _, h1, h2, _⟩
    · injection h' with _ _ e; rw [h0, e]; omega
    · injection h' with _ _ e; unfold maxLen at h2; omega
  have HR := Lib.hid (BkRd.of_own ho2)
  have HB2 := Lib.hid (HB1.out.trans (hb2.mono HB1.out.size))
  have HN2 := Lib.hid ((hb2.block w.heap.size (heap_lt HN1.out)).trans HN1.out)
  clear ho2 hb2 HW HN1 HB1
  go_wp2
  go_loopw [21] (fun t wr => ∃ j : Nat, t = .int .i64 (j : Int) ∧ j ≤ l.length ∧ (∀ (i : Nat) (x : Bk), i < j → l[i]? = some x → ¬((x.off : Int) = o ∧ x.used = true)) ∧ Below w2.heap.size w2 wr) (fun t _ => l.length - (intOf t).toNat)
  case atStart => exact ⟨0, rfl, Nat.zero_le _, fun i x hi => absurd hi (Nat.not_lt_zero _), Below.refl _ _⟩
  case round =>
    obtain ⟨j, rfl, hj, hno, hbe⟩ := hrel
    have nl := (hbe.block w.heap.size (heap_lt HN2.out)).trans HN2.out
    have hfin := HB2.out.trans (hbe.mono HB2.out.size)
    by_cases hlt : j < l.length
    · obtain ⟨x, hx⟩ : ∃ x, l[j]? = some x := ⟨l[j], List.getElem?_eq_getElem hlt⟩
      obtain ⟨b2, q, rfl, hbb, hcl2⟩ := HR.out (by omega)
      obtain ⟨p0, p1, p2⟩ := hcl2 j x hx
      have r0 := below_in hbe p0 hbb
      have r1 := below_in hbe p1 hbb
      have r2 := below_in hbe p2 hbb
      have HIT := Lib.hid (HHIT.out j x hx)
      have HNO : Hid (¬((x.off : Int) = o ∧ x.used = true) → ∀ (i : Nat) (z : Bk), i < j + 1 → l[i]? = some z → ¬((z.off : Int) = o ∧ z.used = true)) := fun hx2 i z hi hz => by
        by_cases hij : i < j
        · exact hno i z hij hz
        · obtain rfl : i = j := by omega
          rw [hx] at hz
          injection hz with hz
          rw [← hz]
          exact hx2
      obtain ⟨xo, xs, xu⟩ := x
      dsimp only at p0 p1 p2 r0 r1 r2
      obtain ⟨w4, hw4⟩ : ∃ w4, wr.alloc (.cells #[.int .i64 (xo : Int), .int .i64 (xs : Int), .bool xu] 51) = w4 := ⟨_, rfl⟩
      have hb4 : Below w2.heap.size w2 w4 := by rw [← hw4]; exact hbe.alloc hbe.size _
      have n4 : w4.heap[wr.heap.size]? = some (.cells #[.int .i64 (xo : Int), .int .i64 (xs : Int), .bool xu] 51 (0, 0)) := by rw [← hw4]; exact heap_alloc_new wr _
      have nl4 : w4.heap[w.heap.size]? = some (.cells #[.int .i64 0, .int .i64 0, .bool false] 51 (0, 0)) := by rw [← hw4]; exact (heap_alloc_old _ _ (heap_lt nl)).trans nl
      have hf4 : Below w.heap.size w w4 := by rw [← hw4]; exact hfin.alloc hfin.size _
      obtain ⟨⟨d0, d1, d2⟩, _⟩ := blk_cells n4
      have HW4 := Lib.hid hw4
      have HB4 := Lib.hid hb4
      have HF4 := Lib.hid hf4
      have NL4 := Lib.hid nl4
      have HNEQ := Lib.hid (show wr.heap.size ≠ w.heap.size from fun e => by have := heap_lt nl; omega)
      clear hx hbe p0 p1 p2 hb4 n4 hw4 hcl2 hno nl nl4 hf4 hfin
      by_cases hxo : (xo : Int) = o
      · have e1 : ((xo : Int) == o) = true := by rw [beq_iff_eq]; exact hxo
        cases xu with
        | true =>
          obtain rfl := HIT.out hxo rfl
          obtain ⟨⟨c0, c1, c2⟩, f0, f1, f2⟩ := blk_cells NL4.out
          have hlt4 := heap_lt' NL4.out
          clear hxo HHIT HMISS HIT HNO
          go_wp2_with (first | (rw [HW4.out]) | fail)
          (try simp only [Exit.inBlock, Exit.then])
          refine blk_ret (x := .nilIface) (g := w.heap.size) (o := (xo : Int)) (s := (xs : Int)) (b := true) Tryz.results40 ?_ ?_ ?_ ?_ ?_
          · rfl
          · rfl
          · rfl
          · exact blk_set NL4.out _ _ _
          · exact ⟨rfl, ((HF4.out.setCell (Nat.le_refl _) _).setCell (Nat.le_refl _) _).setCell (Nat.le_refl _) _⟩
        | false =>
          have HNO2 := Lib.hid (HNO.out (fun hh => by cases hh.2))
          clear hxo HHIT HMISS HIT HNO
          go_wp2_with (first | (rw [HW4.out]) | fail)
          go_roundw
          case rel => exact ⟨j + 1, by go_num, by omega, HNO2.out, HB4.out⟩
          case measure => simp only [intOf]; omega
      · have e1 : ((xo : Int) == o) = false := by rw [beq_eq_false_iff_ne]; exact hxo
        have HNO2 := Lib.hid (HNO.out (fun hh => hxo hh.1))
        clear hxo HHIT HMISS HIT HNO
        go_wp2_with (first | (rw [HW4.out]) | fail)
        go_roundw
        case rel => exact ⟨j + 1, by go_num, by omega, HNO2.out, HB4.out⟩
        case measure => simp only [intOf]; omega
    · obtain rfl := HMISS.out (fun i x hx => hno i x (by have := lst_lt hx; omega) hx)
      have NL := Lib.hid nl
      have HF := Lib.hid hfin
      obtain ⟨⟨c0, c1, c2⟩, f0, f1, f2⟩ := blk_cells NL.out
      have hlt4 := heap_lt' NL.out
      clear hno hbe nl hfin HHIT HMISS
      go_wp2
      (try simp only [Exit.inBlock, Exit.then])
      refine blk_ret (x := .iface 63 (.int .i64 3)) (g := w.heap.size) (o := 0) (s := 0) (b := false) Tryz.results40 ?_ ?_ ?_ ?_ ?_
      · rfl
      · rfl
      · rfl
      · exact blk_set NL.out _ _ _
      · exact ⟨rfl, ((HF.out.setCell (Nat.le_refl _) _).setCell (Nat.le_refl _) _).setCell (Nat.le_refl _) _⟩

section
variable {w : World} {g base cap c : Nat} {A : Option Addr} {bs : List UInt8} {H : Hp}
set_option maxRecDepth 100000 in
set_option maxHeartbeats 1000000 in
theorem giveK : GiveK := by
  intro w g base cap c A bs H o h hb hcap hc hR ho
  have hU := usedK w g base cap c A bs H o h hb hcap hc hR ho
  have BC := Lib.hid (show Became 92 g base cap A bs w w from ⟨A, c, h, Tch.refl _ _, .inl rfl⟩)
  cases hi : usedB H.blks o with
  | none =>
    have e : H.giveO o = none := by unfold Hp.giveO; rw [hi]; rfl
    rw [e]
    rw [hi] at hU
    dsimp only [BlkTold, bkV, Bk.val, Option.isSome, errV, Option.map] at hU
    dsimp only [Turned, errV]
    have HU := Lib.hid hU
    clear hU hi e h hR
    go_enter Tryz.func34, Tryz.ntmps34
    go_wp2_with fail
    with_reducible refine HU.out.mono ?_
    rintro e w2 ⟨rfl, hb2⟩
    have HB2 := Lib.hid (hb2.alloc hb2.size (.cells #[.int .i64 0, .int .i64 0, .bool false] 51))
    clear hb2 HU
    go_wp2
    go_ret
    exact ⟨rfl, HB2.out⟩
  | some i =>
    obtain ⟨h1, h2, h3⟩ := used_at hi
    have e : H.giveO o = some (H.give i) := by unfold Hp.giveO; rw [hi]; rfl
    rw [e]
    rw [hi] at hU
    obtain ⟨m1, m2⟩ := mid_split h1
    obtain ⟨A1, p, n, B1, eA, eB, hN⟩ := near_of (H.blks.take i) (H.blks.drop (i + 1))
    obtain ⟨x, hx⟩ : ∃ x, bkAt H.blks i = x := ⟨_, rfl⟩
    rw [hx] at m1 h2 h3
    have hm : Option.map (bkAt H.blks) (some i) = some x := by rw [← hx]; rfl
    rw [hm] at hU
    obtain ⟨xo, xs, xu⟩ := x
    dsimp only at h2 h3
    subst h3
    dsimp only [BlkTold, bkV, Bk.val, Option.isSome, errV] at hU
    dsimp only [Turned, errV]
    have hbk : H.blks = (A1 ++ p.toList) ++ ⟨xo, xs, true⟩ :: (n.toList ++ B1) := by rw [← eA, ← eB]; exact m1
    have hlen : (A1 ++ p.toList).length = i := by rw [← eA]; exact m2
    have HG := Lib.hid (fun w2 (hB : Became 92 g base cap A bs w w2) => bc_give hB hb hcap hc hR hbk hN)
    have HHELD := Lib.hid (fun out hP => hR.gave (by omega) hbk hN (out := out) hP)
    rw [hlen] at HG HHELD
    have HU := Lib.hid hU
    clear hU hi e h hR eA eB hN hbk m1 m2 hm hx h2
    go_enter Tryz.func34, Tryz.ntmps34
    go_wp2_with fail
    with_reducible refine HU.out.mono ?_
    rintro e w2 ⟨rfl, hb2⟩
    obtain ⟨w3, hw3⟩ : ∃ w3, w2.alloc (.cells #[.int .i64 (xo : Int), .int .i64 (xs : Int), .bool true] 51) = w3 := ⟨_, rfl⟩
    have n3 : w3.heap[w2.heap.size]? = some (.cells #[.int .i64 (xo : Int), .int .i64 (xs : Int), .bool true] 51 (0, 0)) := by rw [← hw3]; exact heap_alloc_new w2 _
    have hb3 : Below w.heap.size w w3 := by rw [← hw3]; exact hb2.alloc hb2.size _
    have HG3 := Lib.hid (HG.out w3 (became_below BC.out hb3))
    obtain ⟨⟨d0, d1, d2⟩, _⟩ := blk_cells n3
    have hlt3 := heap_lt' n3
    have HW3 := Lib.hid hw3
    clear hb2 HU HG BC hw3 n3 hb3
    go_wp2_with (first | (rw [HW3.out]) | fail)
    refine HG3.out.mono ?_
    clear d0 d1 d2 hlt3
    rintro e w4 ⟨rfl, out, hB, hR, hP⟩
    have HB := Lib.hid hB
    have HR := Lib.hid hR
    have HH := Lib.hid (HHELD.out out hP)
    clear hB hR hP HG3 HHELD
    go_wp2
    go_ret
    exact ⟨rfl, out, HB.out, HR.out, HH.out⟩

set_option maxRecDepth 100000 in
set_option maxHeartbeats 1000000 in
theorem trimK : TrimK := by
  intro w g base cap c A bs H o s h hb hcap hc hR ho hsr
  have hC := classC w s hsr
  constructor
  · intro hs
    have e : classI s = -1 := by simp [classI, hs]
    rw [e] at hC
    dsimp only [errV]
    have HC := Lib.hid hC
    clear hC e hs h hR
    go_enter Tryz.func37, Tryz.ntmps37
    go_wp2_with fail
    with_reducible refine HC.out.mono ?_
    rintro e w2 ⟨rfl, hb2⟩
    have HB2 := Lib.hid hb2
    clear hb2 HC
    go_wp2
    go_ret
    exact ⟨rfl, HB2.out⟩
  · intro hs
    have hq := (isSz_iff _).1 hs
    obtain ⟨n, rfl⟩ : ∃ n : Nat, s = (n : Int) := ⟨s.toNat, by omega⟩
    rw [Int.toNat_natCast]
    obtain ⟨k, hk, hk2⟩ := class_nat (x := ⟨0, n, false⟩) hs
    have hk : classI (n : Int) = (k : Int) := hk
    rw [hk] at hC
    have HC := Lib.hid hC
    have BC := Lib.hid (show Became 92 g base cap A bs w w from ⟨A, c, h, Tch.refl _ _, .inl rfl⟩)
    have HU := Lib.hid (fun w1 (hB : Below w.heap.size w w1) => usedK w1 g base cap c A bs H o (h.below hB) hb hcap hc hR ho)
    cases hi : usedB H.blks o with
    | none =>
      have e : H.trimO o n = none := by unfold Hp.trimO; rw [hi]
      rw [e]
      rw [hi] at HU
      dsimp only [BlkTold, bkV, Bk.val, Option.isSome, errV, Option.map] at HU
      dsimp only [Turned, errV]
      clear hC hi e h hR hk
      go_enter Tryz.func37, Tryz.ntmps37
      go_wp2_with fail
      with_reducible refine HC.out.mono ?_
      rintro e w1 ⟨rfl, hb1⟩
      have HU1 := Lib.hid (HU.out w1 hb1)
      have HB1 := Lib.hid hb1
      clear hb1 HC HU
      go_wp2_with fail
      with_reducible refine HU1.out.mono ?_
      rintro e w2 ⟨rfl, hb2⟩
      have hb2' := HB1.out.trans (hb2.mono HB1.out.size)
      have HB2 := Lib.hid (hb2'.alloc hb2'.size (.cells #[.int .i64 0, .int .i64 0, .bool false] 51))
      clear hb2 hb2' HU1
      go_wp2
      go_ret
      exact ⟨rfl, HB2.out⟩
    | some i =>
      obtain ⟨h1, h2, h3⟩ := used_at hi
      rw [hi] at HU
      obtain ⟨m1, m2⟩ := mid_split h1
      obtain ⟨x, hx⟩ : ∃ x, bkAt H.blks i = x := ⟨_, rfl⟩
      rw [hx] at m1 h2 h3
      have hm : Option.map (bkAt H.blks) (some i) = some x := by rw [← hx]; rfl
      rw [hm] at HU
      have hxb := (hR.bound (by omega)).2 x (by rw [m1]; simp)
      have hbl := (hR.bound (by omega)).1
      obtain ⟨xo, xs, xu⟩ := x
      dsimp only at h2 h3 hxb
      subst h3
      dsimp only [BlkTold, bkV, Bk.val, Option.isSome, errV] at HU
      by_cases hlt : xs < n
      · have e : H.trimO o n = none := by unfold Hp.trimO; rw [hi]; dsimp only; rw [hx]; dsimp only; rw [if_pos hlt]
        rw [e]
        dsimp only [Turned, errV]
        have e2 : decide ((xs : Int) < (n : Int)) = true := decide_eq_true (by omega)
        clear hC hi e h hR hk m1 m2 hm hx h2
        go_enter Tryz.func37, Tryz.ntmps37
        go_wp2_with fail
        with_reducible refine HC.out.mono ?_
        rintro e w1 ⟨rfl, hb1⟩
        have HU1 := Lib.hid (HU.out w1 hb1)
        have HB1 := Lib.hid hb1
        clear hb1 HC HU
        go_wp2_with fail
        with_reducible refine HU1.out.mono ?_
        rintro e w2 ⟨rfl, hb2⟩
        have hb2' := HB1.out.trans (hb2.mono HB1.out.size)
        have HB2 := Lib.hid (hb2'.alloc hb2'.size (.cells #[.int .i64 (xo : Int), .int .i64 (xs : Int), .bool true] 51))
        clear hb2 hb2' HU1
        go_wp2
        go_ret
        exact ⟨rfl, HB2.out⟩
      · have e : H.trimO o n = some (H.cut i n) := by unfold Hp.trimO; rw [hi]; dsimp only; rw [hx]; dsimp only; rw [if_neg hlt]
        rw [e]
        dsimp only [Turned, errV]
        have HG := Lib.hid (fun w2 (hB : Became 92 g base cap A bs w w2) => cut_any hB hb hcap hc hR m1 hs (Nat.le_of_not_lt hlt))
        rw [m2] at HG
        have e2 : decide ((xs : Int) < (n : Int)) = false := decide_eq_false (by omega)
        clear hC hi e h hR hk m1 m2 hm hx h2
        go_enter Tryz.func37, Tryz.ntmps37
        go_wp2_with fail
        with_reducible refine HC.out.mono ?_
        rintro e w1 ⟨rfl, hb1⟩
        have HU1 := Lib.hid (HU.out w1 hb1)
        have HB1 := Lib.hid hb1
        clear hb1 HC HU
        go_wp2_with fail
        with_reducible refine HU1.out.mono ?_
        rintro e w2 ⟨rfl, hb2⟩
        have hb2' := HB1.out.trans (hb2.mono HB1.out.size)
        obtain ⟨w3, hw3⟩ : ∃ w3, w2.alloc (.cells #[.int .i64 (xo : Int), .int .i64 (xs : Int), .bool true] 51) = w3 := ⟨_, rfl⟩
        have n3 : w3.heap[w2.heap.size]? = some (.cells #[.int .i64 (xo : Int), .int .i64 (xs : Int), .bool true] 51 (0, 0)) := by rw [← hw3]; exact heap_alloc_new w2 _
        have hb3 : Below w.heap.size w w3 := by rw [← hw3]; exact hb2'.alloc hb2'.size _
        have HG3 := Lib.hid (HG.out w3 (became_below BC.out hb3))
        obtain ⟨⟨d0, d1, d2⟩, _⟩ := blk_cells n3
        have hlt3 := heap_lt' n3
        have HW3 := Lib.hid hw3
        clear hb2 hb2' HU1 HG BC hw3 n3 hb3
        go_wp2_with (first | (rw [HW3.out]) | fail)
        refine HG3.out.mono ?_
        clear d0 d1 d2 hlt3
        rintro e w4 ⟨rfl, out, hB, hR, hH, _⟩
        have HB := Lib.hid hB
        have HR := Lib.hid hR
        have HH := Lib.hid hH
        clear hB hR hH HG3
        go_wp2
        go_ret
        exact ⟨rfl, out, HB.out, HR.out, HH.out⟩
end
end Go.Proofs.YtbemaoncakcnjaaGreat

/- The contract of the program's Take (layer 12): a free block that Find tells; else one at the end. -/
namespace Go.Proofs.YtbemaoncakcnjaaGreat
open Go.RowKit

section
variable {w w1 : World} {g base cap c : Nat} {A : Option Addr} {bs : List UInt8} {H : Hp}
set_option maxRecDepth 100000 in
set_option maxHeartbeats 2000000 in
theorem takeFree_any (h : Became 92 g base cap A bs w w1) (hbase : base ≤ 4611686018427387904) (hcap : cap ≤ 16384) (hc : H.cap = cap) (hR : Rt bs H) {A0 B0 : List Bk} {xo xs s : Nat} (hb : H.blks = A0 ++ ⟨xo, xs, false⟩ :: B0) (hs : isSz (s : Int) = true) (hle : s ≤ xs) :
    Calls Tryz.prog 72 #[.pointer (some ⟨g, 0, none⟩), .int .i64 (xo : Int), .int .i64 (s : Int)] w1 fun e w2 => e = .returned .nilIface ∧ ∃ out, Became 92 g base cap A out w w2 ∧ Rt out ((H.out A0.length).cut A0.length s) ∧ Held H bs ((H.out A0.length).cut A0.length s) out := by
  obtain ⟨b1, e1, e2, l1, l2, hblk, hR2, hP⟩ := hR.uses (by omega) hb rfl
  dsimp only at e1 e2 l2 hblk hR2 hP
  obtain ⟨b2, hb2⟩ : ∃ b2, setT b1 ⟨xo, xs, true⟩ = b2 := ⟨_, rfl⟩
  rw [hb2] at e2 l2 hR2 hP
  have hM := hR.md (by omega)
  obtain ⟨hl, hbd⟩ := hR.bound (by omega)
  have hxm : (⟨xo, xs, false⟩ : Bk) ∈ H.blks := by rw [hb]; simp
  have hx := hbd _ hxm
  dsimp only at hx
  have hat : frO (getB bs (xo : Int)) = some ⟨xo, xs, false⟩ := by
    have := hM.ls.st.at_ _ hxm
    dsimp only at this
    rw [this]; rfl
  have hcut : ((H.out A0.length).use A0.length true).cut A0.length s = (H.out A0.length).cut A0.length s := cut_use (by show A0.length < H.blks.length; rw [hb]; simp)
  have h1 := bc_at h hbase hl (xo : Int) (by omega) _ hat
  dsimp only [frV] at h1
  have H1 := Lib.hid h1
  have HSZ := Lib.hid (show w.heap.size ≤ w1.heap.size by obtain ⟨_, _, _, ht, _⟩ := h; exact ht.size)
  have HO := Lib.hid (fun w2 (hB : Became 92 g base cap A bs w w2) => bc_out hB hbase hl (xo : Int) (some ⟨xo, xs, false⟩) (fun z hz => by cases hz; dsimp only; omega) (b2 := b1) e1)
  have HS := Lib.hid (fun w2 (hB : Became 92 g base cap A b1 w w2) => bc_set hB hbase (by omega) xo xs true (by omega) (by omega) e2)
  have HC := Lib.hid (fun w2 (hB : Became 92 g base cap A b2 w w2) => cut_any hB hbase hcap (H := (H.out A0.length).use A0.length true) hc hR2 hblk hs hle)
  rw [hcut] at HC
  have HH := Lib.hid (fun out => hR.usedHeld (by omega) hb (out := out) (H3 := (H.out A0.length).cut A0.length s) hblk hP)
  dsimp only [frV] at HO
  clear h1 hcut hat hx hxm hbd hM hb2 e1 e2 hblk hR2 hP hR hb h
  go_enter Tryz.func72, Tryz.ntmps72
  go_wp2_with fail
  with_reducible refine H1.out.mono ?_
  rintro e w2 ⟨rfl, hB2, hb2⟩
  obtain ⟨w3, hw3⟩ : ∃ w3, w2.alloc (.cells #[.int .i64 (xo : Int), .int .i64 (xs : Int), .bool false] 51) = w3 := ⟨_, rfl⟩
  have n3 : w3.heap[w2.heap.size]? = some (.cells #[.int .i64 (xo : Int), .int .i64 (xs : Int), .bool false] 51 (0, 0)) := by rw [← hw3]; exact heap_alloc_new w2 _
  have B3 := became_alloc hB2 (.cells #[.int .i64 (xo : Int), .int .i64 (xs : Int), .bool false] 51)
  rw [hw3] at B3
  have HO3 := Lib.hid (HO.out w3 B3)
  have HLE := Lib.hid (Nat.le_trans HSZ.out hb2.size)
  obtain ⟨⟨d0, d1, d2⟩, _⟩ := blk_cells n3
  have hlt3 := heap_lt' n3
  have N3 := Lib.hid n3
  have HW3 := Lib.hid hw3
  clear hB2 hb2 H1 HO hw3 n3 B3 HSZ
  go_wp2_with (first | (rw [HW3.out]) | fail)
  refine HO3.out.mono ?_
  clear d0 d1 d2 hlt3
  rintro e w4 ⟨rfl, hB4, hL4⟩
  have n4 := hL4 _ _ N3.out
  obtain ⟨w5, hw5⟩ : ∃ w5, w4.setCell ⟨w2.heap.size, 2, none⟩ (.bool true) = w5 := ⟨_, rfl⟩
  have n5 := heap_setCell_same w4 w2.heap.size 2 _ _ (.bool true) n4
  have B5 := became_loc hB4 n4 HLE.out 2 (.bool true)
  rw [hw5] at n5 B5
  have n5 : w5.heap[w2.heap.size]? = some (.cells #[.int .i64 (xo : Int), .int .i64 (xs : Int), .bool true] 51 (0, 0)) := n5
  have HS5 := Lib.hid (HS.out w5 B5)
  obtain ⟨⟨c0, c1, c2⟩, f0, f1, f2⟩ := blk_cells n4
  have hlt4 := heap_lt' n4
  obtain ⟨⟨d0, d1, d2⟩, _⟩ := blk_cells n5
  have hlt5 := heap_lt' n5
  have N5 := Lib.hid n5
  have HW5 := Lib.hid hw5
  clear hB4 hL4 HO3 HS hw5 n4 n5 B5 N3
  go_wp2_with (first | (rw [HW5.out]) | fail)
  refine HS5.out.mono ?_
  clear c0 c1 c2 f0 f1 f2 hlt4 d0 d1 d2 hlt5
  rintro e w6 ⟨rfl, hB6, hL6⟩
  have n6 := hL6 _ _ N5.out
  have HC6 := Lib.hid (HC.out w6 hB6)
  obtain ⟨⟨d0, d1, d2⟩, _⟩ := blk_cells n6
  have hlt6 := heap_lt' n6
  clear hB6 hL6 HS5 HC n6 N5
  go_wp2_with fail
  refine HC6.out.mono ?_
  clear d0 d1 d2 hlt6
  rintro e w7 ⟨rfl, out, hB, hR, _, hP⟩
  have HB := Lib.hid hB
  have HR := Lib.hid hR
  have HHH := Lib.hid (HH.out out hP)
  clear hB hR hP HC6 HH
  go_wp2
  go_ret
  exact ⟨rfl, out, HB.out, HR.out, HHH.out⟩

set_option maxRecDepth 100000 in
set_option maxHeartbeats 2000000 in
theorem takeAtEnd_no (h : Ar w 92 g base cap A c bs) (hbase : base ≤ 4611686018427387904) (hcap : cap ≤ 16384) (hl : bs.length ≤ cap) (p : Option Bk) (hp : frO (aheadB bs (bs.length : Int)) = p) (s z : Nat) (hz : (p.map Bk.size).getD 0 = z) (hzs : z ≤ s) (hs : s ≤ 16384) (hlt : cap < bs.length + (s - z)) :
    Calls Tryz.prog 71 #[.pointer (some ⟨g, 0, none⟩), .int .i64 (s : Int)] w fun e w' => e = .returned (.tuple #[.int .i64 0, errV false 5]) ∧ Below w.heap.size w w' := by
  have HL := Lib.hid (len_any h)
  have h1 := freeAhead_any h hbase (by omega) (bs.length : Int) (by omega) p hp
  rw [frV_eq, hz] at h1
  obtain ⟨fo, hfo⟩ : ∃ fo : Int, (p.map fun z => (z.off : Int)).getD (bs.length : Int) = fo := ⟨_, rfl⟩
  rw [hfo] at h1
  have H1 := Lib.hid h1
  have HG := Lib.hid (fun w2 (hB : Below w.heap.size w w2) => grow_full (h.below hB) (s - z) hl hcap hlt)
  have e1 : ((s - z : Nat) : Int) = (s : Int) - (z : Int) := Int.ofNat_sub hzs
  rw [e1] at HG
  have hfz : z ≤ 16384 := by omega
  dsimp only [errV]
  clear h1 hfo hz h hp hlt e1
  go_enter Tryz.func71, Tryz.ntmps71
  go_wp2_with fail
  with_reducible refine HL.out.mono ?_
  rintro e w1 ⟨rfl, rfl⟩
  go_wp2_with fail
  with_reducible refine H1.out.mono ?_
  rintro e w2 ⟨rfl, hb2⟩
  obtain ⟨w3, hw3⟩ : ∃ w3, w2.alloc (.cells #[.int .i64 fo, .int .i64 (z : Int), .bool false] 51) = w3 := ⟨_, rfl⟩
  have n3 : w3.heap[w2.heap.size]? = some (.cells #[.int .i64 fo, .int .i64 (z : Int), .bool false] 51 (0, 0)) := by rw [← hw3]; exact heap_alloc_new w2 _
  have hb3 : Below w.heap.size w w3 := by rw [← hw3]; exact hb2.alloc hb2.size _
  have HG3 := Lib.hid (HG.out w3 hb3)
  obtain ⟨⟨d0, d1, d2⟩, _⟩ := blk_cells n3
  have hlt3 := heap_lt' n3
  have HW3 := Lib.hid hw3
  have HB3 := Lib.hid hb3
  clear hb2 H1 HG HL hw3 n3 hb3
  go_wp2_with (first | (rw [HW3.out]) | fail)
  refine HG3.out.mono ?_
  clear d0 d1 d2 hlt3
  rintro e w4 ⟨rfl, k, rfl⟩
  have HB4 : Hid (Below w.heap.size w (w3.drewN k)) := ⟨HB3.out.os, HB3.out.tape, HB3.out.output, HB3.out.size, HB3.out.block⟩
  clear HG3
  go_wp2
  go_ret2
  exact ⟨rfl, HB4.out⟩

set_option maxRecDepth 100000 in
set_option maxHeartbeats 2000000 in
theorem takeAtEnd_yes (h : Ar w 92 g base cap A c bs) (hbase : base ≤ 4611686018427387904) (hcap : cap ≤ 16384) (hl : bs.length ≤ cap) (p : Option Bk) (hp : frO (aheadB bs (bs.length : Int)) = p) (s z o : Nat) (hz : (p.map Bk.size).getD 0 = z) (hzs : z ≤ s) (hs : s ≤ 16384) (ho : o ≤ 16384)
    (hfo : (p.map fun z => (z.off : Int)).getD (bs.length : Int) = (o : Int)) (hpz : ∀ y, p = some y → 0 < y.size ∧ y.off ≤ 16384) (hlt : bs.length + (s - z) ≤ cap) (b1 b2 : List UInt8) (e1 : outB (bs ++ List.replicate (s - z) 0) p = some b1) (hl1 : b1.length = bs.length + (s - z)) (e2 : setB b1 (o : Int) (s : Int) true = some b2) :
    Calls Tryz.prog 71 #[.pointer (some ⟨g, 0, none⟩), .int .i64 (s : Int)] w fun e w' => e = .returned (.tuple #[.int .i64 (o : Int), errV true 5]) ∧ Became 92 g base cap A b2 w w' := by
  have HL := Lib.hid (len_any h)
  have h1 := freeAhead_any h hbase (by omega) (bs.length : Int) (by omega) p hp
  have ef := frV_eq (bs.length : Int) p
  rw [hz, hfo] at ef
  rw [ef] at h1
  have H1 := Lib.hid h1
  have BC := Lib.hid (show Became 92 g base cap A bs w w from ⟨A, c, h, Tch.refl _ _, .inl rfl⟩)
  have HG := Lib.hid (fun w2 (hB : Became 92 g base cap A bs w w2) => bc_grow hB (s - z) hl hcap hlt)
  have HO := Lib.hid (fun w2 (hB : Became 92 g base cap A (bs ++ List.replicate (s - z) 0) w w2) => bc_out hB hbase (by rw [List.length_append, List.length_replicate]; omega) (bs.length : Int) p hpz e1)
  rw [ef] at HO
  have hl1' : b1.length ≤ 16384 := by omega
  have HS := Lib.hid (fun w2 c' A' (a : Ar w2 92 g base cap A' c' b1) => setC w2 g base cap c' A' b1 (o : Int) (s : Int) true _ a hbase hl1' (by omega) (by omega) e2)
  dsimp only [Done, errV] at HS
  obtain ⟨bz, hbz⟩ : ∃ bz, bs ++ List.replicate (s - z) 0 = bz := ⟨_, rfl⟩
  have e3 : ((s - z : Nat) : Int) = (s : Int) - (z : Int) := Int.ofNat_sub hzs
  rw [hbz, e3] at HG
  rw [hbz] at HO
  have hfz : z ≤ 16384 := by omega
  dsimp only [errV]
  clear h1 hfo hz h hp hlt e3 ef e1 e2 hpz hl1 hl1' hbz
  go_enter Tryz.func71, Tryz.ntmps71
  go_wp2_with fail
  with_reducible refine HL.out.mono ?_
  rintro e w1 ⟨rfl, rfl⟩
  go_wp2_with fail
  with_reducible refine H1.out.mono ?_
  rintro e w2 ⟨rfl, hb2⟩
  obtain ⟨w3, hw3⟩ : ∃ w3, w2.alloc (.cells #[.int .i64 (o : Int), .int .i64 (z : Int), .bool false] 51) = w3 := ⟨_, rfl⟩
  have n3 : w3.heap[w2.heap.size]? = some (.cells #[.int .i64 (o : Int), .int .i64 (z : Int), .bool false] 51 (0, 0)) := by rw [← hw3]; exact heap_alloc_new w2 _
  have hb3 : Below w.heap.size w w3 := by rw [← hw3]; exact hb2.alloc hb2.size _
  have HG3 := Lib.hid (HG.out w3 (became_below BC.out hb3))
  obtain ⟨⟨d0, d1, d2⟩, _⟩ := blk_cells n3
  have hlt3 := heap_lt' n3
  have HW3 := Lib.hid hw3
  have N3 := Lib.hid n3
  clear hb2 H1 HG HL hw3 n3 hb3 BC
  go_wp2_with (first | (rw [HW3.out]) | fail)
  refine HG3.out.mono ?_
  clear d0 d1 d2 hlt3
  rintro e w4 ⟨rfl, hB4, hL4⟩
  have n4 := hL4 _ _ N3.out
  have HO4 := Lib.hid (HO.out w4 hB4)
  obtain ⟨⟨d0, d1, d2⟩, _⟩ := blk_cells n4
  have hlt4 := heap_lt' n4
  have N4 := Lib.hid n4
  clear hB4 hL4 HG3 HO n4 N3
  go_wp2_with fail
  refine HO4.out.mono ?_
  clear d0 d1 d2 hlt4
  rintro e w5 ⟨rfl, hB5, hL5⟩
  have n5 := hL5 _ _ N4.out
  obtain ⟨w6, hw6⟩ : ∃ w6, w5.drew = w6 := ⟨_, rfl⟩
  have n6 : w6.heap[w2.heap.size]? = some (.cells #[.int .i64 (o : Int), .int .i64 (z : Int), .bool false] 51 (0, 0)) := by rw [← hw6]; exact n5
  have B6 : Became 92 g base cap A b1 w w6 := by rw [← hw6]; exact became_below hB5 (Below.refl _ _).drew
  obtain ⟨A6, c6, a6, t6, k6⟩ := B6
  have hnf := ar_ne a6 n6
  obtain ⟨⟨d0, d1, d2⟩, _⟩ := blk_cells n6
  have HS6 := Lib.hid (HS.out w6 c6 A6 a6)
  have HFIN := Lib.hid (fun w7 (hB : Became 92 g base cap A6 b2 w6 w7) => Became.trans a6 t6 k6 hB)
  have HNF := Lib.hid hnf
  have HW6 := Lib.hid hw6
  clear hB5 hL5 HO4 HS n5 N4 n6 a6 t6 k6 hw6 hnf
  go_wp2_with fail
  refine wp_region_set (foot g A6) [([0, 1, 2, 3, 4, 5, 6], 7)] [8, 9] [] (by kernel_rfl) (by kernel_rfl) (by kernel_rfl) (fun _ _ _ _ _ h => h) ?_
  rw [HW6.out]
  clear HW6
  have z0 : ∀ z : LaterS (foot g A6) w6, z.val.cell? ⟨w2.heap.size, 0, none⟩ = some (.int .i64 (o : Int)) := fun z => z.ext.cell d0 HNF.out
  clear d0 d1 d2
  refine set_cons (l := ?seg1) ?hseg1 ?_
  case hseg1 => simp only [pick, List.getElem?_toArray, List.getElem?_cons_succ, List.getElem?_cons_zero]; rfl
  repeat (go_big_quiet_step (fail))
  refine wpQuiet_nil ?_
  clear z0
  refine set_call (vs := #[.pointer (some ⟨g, 0, none⟩), .agg #[.int .i64 (o : Int), .int .i64 (s : Int), .bool true]]) Tryz.call99 rfl rfl rfl (R := fun r w' => r = .nilIface ∧ Became 92 g base cap A6 b2 w6 w') (HS6.out.mono ?_) ?_
  · rintro e w' ⟨rfl, hB⟩
    have hB' := hB
    obtain ⟨_, _, _, ht, _⟩ := hB'
    exact ⟨_, rfl, ht, rfl, hB⟩
  rintro r w7 _ ⟨rfl, hB7⟩
  refine ⟨foot g A6, fun _ _ h => h, ?_⟩
  refine set_last (l := ?la4) (t := []) ?hla4 ?htl4 ?_
  case hla4 => simp only [pick, List.getElem?_toArray, List.getElem?_cons_succ, List.getElem?_cons_zero]; rfl
  case htl4 => rfl
  simp only [Act.put, List.setIfInBounds_toArray, List.set_cons_zero, List.set_cons_succ]
  repeat (go_big_quiet_step (fail))
  refine wpQuiet_nil ?_
  have HB7 := Lib.hid (HFIN.out w7 hB7)
  clear hB7 HFIN HS6
  go_wp2
  go_ret2
  exact ⟨rfl, HB7.out⟩
end

set_option maxRecDepth 100000 in
set_option maxHeartbeats 2000000 in
theorem takeK : TakeK := by
  intro w g base cap c A bs H s h hb hcap hc hR hsr
  obtain ⟨hbl, hbd⟩ := hR.bound (by omega)
  have hF := findC w g base cap c A bs s h hb hbl hsr
  constructor
  · intro hs
    unfold findV at hF
    rw [if_neg (by rw [hs]; simp)] at hF
    dsimp only [errV] at hF ⊢
    have HF := Lib.hid hF
    clear hF hs h hR hbd
    go_enter Tryz.func42, Tryz.ntmps42
    go_wp2_with fail
    with_reducible refine HF.out.mono ?_
    rintro e w2 ⟨rfl, hb2⟩
    have HB2 := Lib.hid hb2
    clear hb2 HF
    go_wp2
    go_ret2
    exact ⟨rfl, HB2.out⟩
  · intro hs
    have hq := (isSz_iff _).1 hs
    unfold findV at hF
    rw [if_pos hs] at hF
    obtain ⟨n, rfl⟩ : ∃ n : Nat, s = (n : Int) := ⟨s.toNat, by omega⟩
    rw [Int.toNat_natCast]
    have hfi := hR.finds hs
    rw [hfi] at hF
    dsimp only [Option.getD, Option.isSome, errV] at hF
    have BC := Lib.hid (show Became 92 g base cap A bs w w from ⟨A, c, h, Tch.refl _ _, .inl rfl⟩)
    cases hi : H.find n with
    | some i =>
      obtain ⟨i1, i2, i3⟩ := hR.found hs hi
      obtain ⟨m1, m2⟩ := mid_split i1
      have et := take_fnd hi
      obtain ⟨x, hx⟩ : ∃ x, bkAt H.blks i = x := ⟨_, rfl⟩
      rw [hi] at hF
      dsimp only [Option.map] at hF
      rw [hx] at m1 i2 i3 et hF
      have hxb := hbd x (by rw [m1]; simp)
      obtain ⟨xo, xs, xu⟩ := x
      dsimp only at i2 i3 hxb et hF
      subst i3
      rw [et]
      dsimp only [TurnedAt, errV]
      have HT := Lib.hid (fun w2 (hB : Became 92 g base cap A bs w w2) => takeFree_any hB hb hcap hc hR m1 hs i2)
      rw [m2] at HT
      have HF := Lib.hid hF
      have e0 : ((xo : Int) == 0) = false := by rw [beq_eq_false_iff_ne]; omega
      clear hF hfi hi et m1 m2 hx hR h hbd hs
      go_enter Tryz.func42, Tryz.ntmps42
      go_wp2_with fail
      with_reducible refine HF.out.mono ?_
      rintro e w2 ⟨rfl, hb2⟩
      have HT2 := Lib.hid (HT.out w2 (became_below BC.out hb2))
      clear hb2 HF HT BC
      go_wp2_with fail
      refine HT2.out.mono ?_
      rintro e w4 ⟨rfl, out, hB, hR, hH⟩
      have HB := Lib.hid hB
      have HR := Lib.hid hR
      have HH := Lib.hid hH
      clear hB hR hH HT2
      go_wp2
      go_ret2
      exact ⟨rfl, out, HB.out, HR.out, HH.out⟩
    | none =>
      obtain ⟨A0, p, b1, hpu, hfr, htl⟩ := hR.tail (by omega)
      have hlo := hR.lost hs hi
      have hlen := hR.lenE
      have hle := hR.len
      have hM := hR.md (by omega)
      have ht := hM.tl
      rw [b1, tile_app] at ht
      obtain ⟨t1, t2⟩ := ht
      obtain ⟨o, ho⟩ : ∃ o, 184 + sumB A0 = o := ⟨_, rfl⟩
      have hlen2 : bs.length = o + sumB p.toList := by
        rw [← hlen, b1, ← ho]; unfold lenB; rw [sumB_app]; omega
      obtain ⟨z, hz⟩ : ∃ z, sumB p.toList = z := ⟨_, rfl⟩
      have hpz : (p.map Bk.size).getD 0 = z := by rw [← hz]; cases p <;> simp [sumB]
      have hpo : ∀ y, p = some y → y.off = 184 + sumB A0 ∧ 0 < y.size := fun y hy => by
        have hyb := hbd y (by rw [b1, hy]; simp)
        rw [hy] at t2
        obtain ⟨t3, _⟩ := t2
        exact ⟨t3, by omega⟩
      have hfo : (p.map fun z => (z.off : Int)).getD (bs.length : Int) = (o : Int) := by
        cases p with
        | none =>
          show (bs.length : Int) = (o : Int)
          rw [hlen2]; simp [sumB]
        | some y =>
          show (y.off : Int) = (o : Int)
          rw [(hpo y rfl).1, ho]
      have hzn : z ≤ n := by
        rw [← hz]
        cases p with
        | none => simp [sumB]
        | some y =>
          have := hlo y (by rw [b1]; simp) (hpu y rfl)
          simp [sumB]; omega
      rw [hi] at hF
      dsimp only [Option.map] at hF
      have htz : tailF H.blks = z := htl.trans hz
      by_cases hroom : cap < bs.length + (n - z)
      · have et := take_full hi (by rw [htz, hlen, hc]; omega)
        rw [et]
        dsimp only [TurnedAt]
        have HT := Lib.hid (fun w2 (hB : Below w.heap.size w w2) => takeAtEnd_no (h.below hB) hb hcap (by omega) p hfr n z hpz hzn (by omega) hroom)
        dsimp only [errV] at HT ⊢
        have HF := Lib.hid hF
        clear hF hfi hi et hR h hbd hs b1 hpu hfr htl htz hlo hlen hle hM t1 t2 ho hlen2 hz hpz hpo hfo hroom
        go_enter Tryz.func42, Tryz.ntmps42
        go_wp2_with fail
        with_reducible refine HF.out.mono ?_
        rintro e w2 ⟨rfl, hb2⟩
        have HT2 := Lib.hid (HT.out w2 hb2)
        have HB2 := Lib.hid hb2
        clear hb2 HF HT BC
        go_wp2_with fail
        refine HT2.out.mono ?_
        rintro e w4 ⟨rfl, hb4⟩
        have HB4 := Lib.hid (HB2.out.trans (hb4.mono HB2.out.size))
        clear hb4 HT2 HB2
        go_wp2
        go_ret2
        exact ⟨rfl, HB4.out⟩
      · obtain ⟨H', et, hb', hl', hc'⟩ := take_end hi (by rw [htz, hlen, hc]; omega) b1 htl hpo
        rw [et]
        dsimp only [TurnedAt]
        obtain ⟨q1, e1, e2, l1, l2, hRt, hP⟩ := hR.adds (by omega) b1 hpu (o := o) (s := n) (n := n - z) ho.symm hs (by omega) (by omega)
        have hRR := hRt H' (by rw [hb', ho]) hl' hc'
        have hHD : Held H bs H' (setT q1 ⟨o, n, true⟩) := fun z hz hzu y _ _ _ i i1 i2 _ => hP z hz hzu i ⟨i1, i2⟩
        rw [ho]
        obtain ⟨b2, hb2⟩ : ∃ b2, setT q1 ⟨o, n, true⟩ = b2 := ⟨_, rfl⟩
        rw [hb2] at e2 hRR hHD
        have HT := Lib.hid (fun w2 (hB : Below w.heap.size w w2) => takeAtEnd_yes (h.below hB) hb hcap (by omega) p hfr n z o hpz hzn (by omega) (by omega) hfo (fun y hy => ⟨(hpo y hy).2, by have := (hpo y hy).1; omega⟩) (by omega) q1 b2 e1 l1 e2)
        dsimp only [errV] at HT ⊢
        have HF := Lib.hid hF
        have HRR := Lib.hid hRR
        have HHD := Lib.hid hHD
        clear hF hfi hi et hR h hbd hs b1 hpu hfr htl htz hlo hlen hle hM t1 t2 ho hlen2 hz hpz hpo hfo hroom hb' hl' hc' e1 e2 l1 l2 hRt hP hRR hHD hb2
        go_enter Tryz.func42, Tryz.ntmps42
        go_wp2_with fail
        with_reducible refine HF.out.mono ?_
        rintro e w2 ⟨rfl, hb2⟩
        have HT2 := Lib.hid (HT.out w2 hb2)
        have HB2 := Lib.hid hb2
        clear hb2 HF HT BC
        go_wp2_with fail
        refine HT2.out.mono ?_
        rintro e w4 ⟨rfl, hb4⟩
        have HB4 := Lib.hid (hb4.after HB2.out)
        clear hb4 HT2 HB2
        go_wp2
        go_ret2
        exact ⟨rfl, b2, HB4.out, HRR.out, HHD.out⟩
end Go.Proofs.YtbemaoncakcnjaaGreat

/- How all stands in the laws of layers 12 and 13: an arena of the law's own, and the document's heap beside it. -/
namespace Go.Proofs.YtbemaoncakcnjaaGreat
open Go.RowKit

structure Al (wB W : World) (g base cap : Nat) (A : Option Addr) (c : Nat) (bs : List UInt8) (F : Nat → Prop) (p : Nat) (H : Hp) : Prop where
  st : St wB W g base cap A c bs []
  hm : HM F W p H
  lo : ∀ k, F k → wB.heap.size ≤ k
  hi : ∀ k, F k → k < W.heap.size
  ap : ∀ k, F k → ¬ foot g A k

section
variable {wB W W' : World} {g base cap c p : Nat} {A : Option Addr} {bs : List UInt8} {F : Nat → Prop} {H : Hp}
theorem HM.tight {w : World} (h : HM F w p H) : ∃ F', HM F' w p H ∧ (∀ k, F' k → F k) ∧ ∀ k, F' k → k < w.heap.size := by
  obtain ⟨Vb, Vd, gl, cs, h⟩ := h
  exact ⟨_, ⟨Vb, Vd, gl, cs, h.tight⟩, fun k hk => h.feetF hk, fun k hk => h.feet_lt hk⟩
theorem Al.below (h : Al wB W g base cap A c bs F p H) (hb : Below W.heap.size W W') : Al wB W' g base cap A c bs F p H :=
  ⟨h.st.below hb, h.hm.below hb, h.lo, fun k hk => Nat.lt_of_lt_of_le (h.hi k hk) hb.size, h.ap⟩
theorem Al.became {out : List UInt8} (h : Al wB W g base cap A c bs F p H) (hb : Became 92 g base cap A out W W') : ∃ A' c', Al wB W' g base cap A' c' out F p H := by
  obtain ⟨A', c', har, ht, hA⟩ := hb
  have hlow : ∀ a, A' = some a → wB.heap.size ≤ a.block := fun a ha => by
    rcases hA with e | e
    · exact h.st.aB a (e ▸ ha)
    · exact Nat.le_trans h.st.size (e a ha)
  refine ⟨A', c', ⟨h.st.bel.trans (ht.below (fun k hk => ?_) h.st.size), har, h.st.gB, hlow, fun q hq => by cases hq⟩, h.hm.tch ht h.ap, h.lo, fun k hk => Nat.lt_of_lt_of_le (h.hi k hk) ht.size, fun k hk hf => ?_⟩
  · rcases hk with rfl | ⟨a, e, rfl⟩
    · exact h.st.gB
    · exact h.st.aB a e
  · rcases hf with rfl | ⟨a, e, rfl⟩
    · exact h.ap _ hk (.inl rfl)
    · rcases hA with e2 | e2
      · exact h.ap _ hk (.inr ⟨a, e2 ▸ e, rfl⟩)
      · have h1 := e2 a e
        have h2 := h.hi _ hk
        omega
theorem Al.turn {H' : Hp} (h : Al wB W g base cap A c bs F p H) (ht : HT F W p H' W') : ∃ F', Al wB W' g base cap A c bs F' p H' := by
  obtain ⟨F1, h1, t1, f1⟩ := ht
  obtain ⟨F2, h2, s2, l2⟩ := HM.tight h1
  have hfar : ∀ k, foot g A k → ¬ F k := fun k hk hF => h.ap k hF hk
  refine ⟨F2, ⟨h.st.bel.trans (t1.below h.lo h.st.size), h.st.ar.tch t1 hfar, h.st.gB, h.st.aB, fun q hq => by cases hq⟩, h2, fun k hk => ?_, l2, fun k hk hf => ?_⟩
  · rcases f1 k (s2 k hk) with h' | h'
    · exact h.lo k h'
    · exact Nat.le_trans h.st.size h'
  · rcases f1 k (s2 k hk) with h' | h'
    · exact h.ap k h' hf
    · have := h.st.ar.foot_lt hf
      omega
theorem Al.made {W0 : World} (hs : St wB W0 g base cap A c bs []) (hm : HM (fun k => W0.heap.size ≤ k) W p H) (hb : Below W0.heap.size W0 W) : ∃ F, Al wB W g base cap A c bs F p H := by
  obtain ⟨F2, h2, s2, l2⟩ := HM.tight hm
  refine ⟨F2, hs.below hb, h2, fun k hk => Nat.le_trans hs.size (s2 k hk), l2, fun k hk hf => ?_⟩
  have h1 := s2 k hk
  have := hs.ar.foot_lt hf
  omega
end
end Go.Proofs.YtbemaoncakcnjaaGreat

/- The laws' words of layer 12: Used, Size, Same. -/
namespace Go.Proofs.YtbemaoncakcnjaaGreat
open Go.RowKit

/-- Where the used blocks stand; the n-th one. -/
def usedL (l : List Bk) : List Nat := (l.filter fun x => x.used).map Bk.off
def usedN (l : List Bk) (n : Int) : Nat := (usedL l).getD (n % ((usedL l).length : Int)).toNat 0
def sizeN (n : Int) (raw : Bool) : Int := if raw = true then n else 32 + 16 * (n % 40)
theorem usedL_step {l : List Bk} {j : Nat} {x : Bk} (hx : l[j]? = some x) : usedL (l.take (j + 1)) = if x.used = true then usedL (l.take j) ++ [x.off] else usedL (l.take j) := by
  unfold usedL
  rw [List.take_add_one, hx, List.filter_append, List.map_append]
  cases x with
  | mk o s u => cases u <;> simp
theorem usedL_len (l : List Bk) : (usedL l).length ≤ l.length := by unfold usedL; rw [List.length_map]; exact List.length_filter_le _ _
theorem usedN_nil {l : List Bk} (h : (usedL l).length = 0) (n : Int) : usedN l n = 0 := by
  unfold usedN
  rw [List.eq_nil_of_length_eq_zero h]
  rfl

section
variable {F : Nat → Prop} {w w' : World} {p gl : Nat} {H : Hp} {Vb Vd : Value} {cs : List Value}
set_option maxHeartbeats 1000000 in
theorem lsize_any (w : World) (n : Int) (_hn : -9223372036854775808 ≤ n ∧ n ≤ 9223372036854775807) (raw : Bool) :
    Calls Tryz.prog 36 #[.int .i64 n, .bool raw] w fun e w' => e = .returned (.int .i64 (sizeN n raw)) ∧ w = w' := by
  cases raw with
  | true =>
    go_enter Tryz.func36, Tryz.ntmps36
    go_wp2
    go_ret
    exact ⟨rfl, rfl⟩
  | false =>
    have h1 := Int.emod_nonneg n (b := 40) (by omega)
    have h2 := Int.emod_lt_of_pos n (b := 40) (by omega)
    have HP := Lib.hid (lpick_any n 40 w (by omega) (by omega) _ rfl)
    obtain ⟨k, hk⟩ : ∃ k : Nat, n % 40 = (k : Int) := ⟨(n % 40).toNat, by omega⟩
    have e : (n % ((40 : Nat) : Int)).toNat = k := by have : ((40 : Nat) : Int) = 40 := rfl; rw [this, hk]; rfl
    rw [e] at HP
    have hs : sizeN n false = 32 + 16 * (k : Int) := by unfold sizeN; rw [if_neg (by decide), hk]
    have HS := Lib.hid hs
    have hk40 : k < 40 := by omega
    clear h1 h2 hk e hs
    go_enter Tryz.func36, Tryz.ntmps36
    go_wp2_with fail
    refine HP.out.mono ?_
    rintro e w2 ⟨rfl, rfl⟩
    go_wp2
    go_ret
    exact ⟨rt_i (by rw [HS.out]), rfl⟩

set_option maxHeartbeats 2000000 in
theorem lused_any (h : Hm F w p H Vb Vd gl cs) (hn512 : H.blks.length ≤ 1000) (n : Int) :
    Calls Tryz.prog 32 #[.pointer (some ⟨p, 0, none⟩), .int .i64 n] w fun e w' => e = .returned (.int .i64 ((usedN H.blks n : Nat) : Int)) ∧ Below w.heap.size w w' := by
  have c1 := h.c1
  have hplt := h.lt
  obtain ⟨A, c, rfl⟩ := own_sl h.ob
  have HO := Lib.hid h.ob
  obtain ⟨l, hL⟩ : ∃ l, H.blks = l := ⟨_, rfl⟩
  obtain ⟨M, hM⟩ : ∃ M, l.length = M := ⟨_, rfl⟩
  rw [hL] at HO c1 hn512 ⊢
  rw [hM] at HO c1 hn512
  have HM := Lib.hid hM
  obtain ⟨B5, hB5⟩ : ∃ B5, w.heap.size = B5 := ⟨_, rfl⟩
  have HB5 := Lib.hid hB5
  have HCS : Hid (∀ W, Below B5 w W → W.cell? ⟨p, 1, none⟩ = some (.slice A M c)) := fun W h' => (h'.cell (p := ⟨p, 1, none⟩) (by rw [← hB5]; exact hplt)).trans c1
  have HPK : Hid (∀ (W : World) (m q : Nat), 0 < m → m ≤ 1000 → (n % (m : Int)).toNat = q → Calls Tryz.prog 33 #[.int .i64 n, .int .i64 (m : Int)] W fun e w' => e = .returned (.int .i64 (q : Int)) ∧ W = w') := fun W m q h1 h2 h3 => lpick_any n m W h1 (by omega) q h3
  clear h hL hM hB5 hplt c1
  go_enter Tryz.func32, Tryz.ntmps32
  go_wp2
  go_loopw [5, 6] (fun q i wr => ∃ (m r : Nat) (G : List Nat), i = .int .i64 (m : Int) ∧ m ≤ M ∧ G.length = r ∧ G = usedL (l.take m) ∧ wr.ownsRow B5 3 1 q r (G.map iV) ∧ Below B5 w wr) (fun _ i _ => M - (intOf i).toNat)
  case atStart => exact ⟨0, 0, [], rfl, Nat.zero_le _, rfl, rfl, World.ownsRow_nil _ _ _ _, Below.refl _ _⟩
  case round =>
    obtain ⟨m, r, G, rfl, hm, hGr, hG, hown, hb9⟩ := hrel
    obtain ⟨A9, c9, rfl⟩ := own_sl hown
    have hBw : B5 ≤ wr.heap.size := by have := hb9.size; have := HB5.out; omega
    have k1 := HCS.out wr hb9
    by_cases hlt : m < M
    · have hmi : (m : Int) < (M : Int) := by omega
      obtain ⟨x, hx⟩ : ∃ x, l[m]? = some x := ⟨l[m]'(by rw [HM.out]; exact hlt), List.getElem?_eq_getElem _⟩
      obtain ⟨b, c', hV, hb, _, hnc, ⟨d0, _, d2⟩, _⟩ := own_blk HO.out hx
      injection hV with hV1 _ hV3
      subst hV1 hV3
      have e0 := (hb9.cell (p := ⟨b, m * 3, none⟩) (by rw [← HB5.out]; exact hb)).trans d0
      have e2 := (hb9.cell (p := ⟨b, m * 3 + 2, none⟩) (by rw [← HB5.out]; exact hb)).trans d2
      have hst := usedL_step hx
      rw [← hG] at hst
      have hrM : r ≤ M := by rw [← hGr, hG]; exact Nat.le_trans (usedL_len _) (by rw [List.length_take]; omega)
      obtain ⟨xo, hxo⟩ : ∃ xo, x.off = xo := ⟨_, rfl⟩
      rw [hxo] at e0 hst
      have HALT : Hid (∀ k, (Value.slice A9 r c9).ownBlock = some k → B5 ≤ k) := fun k hk => (hown.lt k hk).1
      have HG := Lib.hid hGr
      have HOWN := Lib.hid hown
      have HB9 := Lib.hid hb9
      cases hu : x.used with
      | false =>
        rw [hu] at e2 hst
        rw [if_neg (by decide)] at hst
        have HST := Lib.hid hst
        clear hst hx hxo hu hG hGr hown hb9 hb d0 d2 e0
        go_wp2
        go_roundw
        case rel => exact ⟨m + 1, r, G, by go_num, by omega, HG.out, HST.out.symm, HOWN.out, HB9.out⟩
        case measure => simp only [intOf]; omega
      | true =>
        rw [hu] at e2 hst
        rw [if_pos rfl] at hst
        have HST := Lib.hid hst
        obtain ⟨w6, hw6⟩ : ∃ w6, wr.alloc (.cells #[.int .i64 (xo : Int)] 3) = w6 := ⟨_, rfl⟩
        have b6 : Below wr.heap.size wr w6 := by rw [← hw6]; exact (Below.refl _ _).alloc (Nat.le_refl _) _
        have n6 : w6.heap[wr.heap.size]? = some (.cells #[.int .i64 (xo : Int)] 3 (0, 0)) := by rw [← hw6]; exact heap_alloc_new wr _
        have own6 := own_below' hown b6
        have hr6 : Rw (fun _ => False) w6 (some ⟨wr.heap.size, 0, none⟩) [xo] := fun _ => ⟨wr.heap.size, 0, rfl, heap_lt n6, id, fun j y hy => by
          rw [Nat.zero_add, cell_of_row w6 _ j _ _ (0, 0) n6]
          match j, hy with
          | 0, hy => simp at hy; subst hy; rfl⟩
        have h6B : B5 ≤ w6.heap.size := Nat.le_trans hBw b6.size
        have OWN6 := Lib.hid own6
        have HR6 := Lib.hid hr6
        have HB6 := Lib.hid (hb9.trans (b6.mono hBw))
        have HW6 := Lib.hid hw6
        clear hst hx hxo hu hG hGr hown hb9 hb d0 d2 own6 hr6 b6 n6 hw6
        go_wp2_with (first
          | (rw [HW6.out])
          | (at_builtin; go_must (refine append_ints rfl _ _ rfl B5 _ r G rfl OWN6.out (fun _ => False) (some ⟨wr.heap.size, 0, none⟩) 1 [xo] rfl HR6.out (fun h => by cases h) (by rw [List.length_singleton]; omega) h6B ?_); intro x7 w7 own7 gr7;
             have HB7 : Hid (Below B5 w w7) := HB6.out.grown gr7 h6B (fun k hk => HALT.out k hk); have OWN7 : Hid (w7.ownsRow B5 3 1 x7 (r + 1) ((G ++ [xo]).map iV)) := own7; clear own7 gr7)
          | fail)
        go_roundw
        case rel => exact ⟨m + 1, r + 1, G ++ [xo], by go_num, by omega, by rw [List.length_append, List.length_singleton, HG.out], HST.out.symm, OWN7.out, HB7.out⟩
        case measure => simp only [intOf]; omega
    · obtain rfl : M = m := by omega
      rw [List.take_of_length_le (Nat.le_of_eq HM.out)] at hG
      have hrM : r ≤ M := by rw [← hGr, hG, ← HM.out]; exact usedL_len _
      have HB9 : Hid (Below w.heap.size w wr) := (show Below _ _ _ by rw [HB5.out]; exact hb9)
      have HG := Lib.hid hG
      have HGR := Lib.hid hGr
      rcases Nat.eq_zero_or_pos r with hr0 | hr0
      · have e : usedN l n = 0 := usedN_nil (by rw [← hG, hGr]; exact hr0) n
        have HE := Lib.hid e
        have hr1 : (r : Int) = 0 := by omega
        clear hG hGr hown hb9 e hr0
        go_wp2
        go_ret
        exact ⟨rt_i (by rw [HE.out]; rfl), HB9.out⟩
      · obtain ⟨q, hq⟩ : ∃ q, (n % (r : Int)).toNat = q := ⟨_, rfl⟩
        have h1 := Int.emod_nonneg n (b := (r : Int)) (by omega)
        have h2 := Int.emod_lt_of_pos n (b := (r : Int)) (by omega)
        have hqr : q < r := by omega
        obtain ⟨y, hy⟩ : ∃ y, G[q]? = some y := ⟨G[q]'(by omega), List.getElem?_eq_getElem _⟩
        have e : usedN l n = y := by
          unfold usedN
          rw [← hG, hGr, hq, List.getD_eq_getElem?_getD, hy]
          rfl
        obtain ⟨bd, hbd⟩ : ∃ bd, A9 = some ⟨bd, 0, none⟩ := by
          rcases hown.2 with ⟨_, h0⟩ | ⟨g, _, _, h', _⟩
          · omega
          · injection h' with e; exact ⟨g, e⟩
        subst hbd
        have hcell := hown.cellAt q (by omega)
        rw [List.getElem?_map, hy] at hcell
        have hce : wr.cell? ⟨bd, q, none⟩ = some (.int .i64 (y : Int)) := hcell
        have HP := Lib.hid (HPK.out wr r q hr0 (by omega) hq)
        have HE := Lib.hid e
        have hqi : (q : Int) < (r : Int) := by omega
        have hrp : 0 < (r : Int) := by omega
        clear hG hGr hown hb9 e hcell hy h1 h2 hq HPK
        go_wp2_with fail
        refine HP.out.mono ?_
        rintro e w2 ⟨rfl, rfl⟩
        go_wp2
        go_ret
        exact ⟨rt_i (by rw [HE.out]), HB9.out⟩
end
end Go.Proofs.YtbemaoncakcnjaaGreat
