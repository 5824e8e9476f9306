/- A region that draws its order, with places at which one of two operations that are no readers may come up; an append to a row of this call's own as such an operation. No program in sight. -/
import Derived.Test.YteomiekjcnpnlaaTail
import Derived.Laws.AppendOwnNone
namespace Go.Proofs.Yteomiekjcnpnlaa
open Go.RowKit

/-- How a region may come up: readers first; then one operation, or either of two; a tail in the end. -/
inductive PT where
  | fin (last : List Nat)
  | one (rs : List Nat) (i : Nat) (t : PT)
  | two (rs : List Nat) (i1 : Nat) (t1 : PT) (i2 : Nat) (t2 : PT)

def PT.ok (ops : Array Oper) (T : List Nat) : PT → Array Bool → Bool
  | .fin last, l => segT ops T l last && seqT ops (mark l last) T
  | .one rs i t, l => segT ops T l rs && (Region.ready .any ops (mark l rs) == [i] && !mv ops i && t.ok ops T ((mark l rs).setIfInBounds i true))
  | .two rs i1 t1 i2 t2, l => segT ops T l rs && (Region.ready .any ops (mark l rs) == [i1, i2] && (!mv ops i1 && !mv ops i2) && (t1.ok ops T ((mark l rs).setIfInBounds i1 true) && t2.ok ops T ((mark l rs).setIfInBounds i2 true)))
def PT.len (T : List Nat) : PT → Nat
  | .fin last => T.length + last.length
  | .one rs _ t => 1 + t.len T + rs.length
  | .two rs _ t1 _ _ => 1 + t1.len T + rs.length
/-- Both ways are as long. -/
def PT.even (T : List Nat) : PT → Bool
  | .fin _ => true
  | .one _ _ t => t.even T
  | .two _ _ t1 _ t2 => t1.len T == t2.len T && (t1.even T && t2.even T)
def PT.wp (P : Program) (ops : Array Oper) (Q : Exit → Act → World → Prop) (T : List Nat) : PT → Nat → Act → World → Prop
  | .fin last, B, a, w => wpQuiet P ops (AfterB B w) (fun a' => wpList P ops Q (pick ops T) a' w) (pick ops last) a
  | .one rs i t, B, a, w => wpQuiet P ops (AfterB B w) (fun a' => wpOp P ops Q i (fun a'' w'' => Below B w w'' ∧ ∃ B', B ≤ B' ∧ t.wp P ops Q T B' a'' w'') a' w) (pick ops rs) a
  | .two rs i1 t1 i2 t2, B, a, w => wpQuiet P ops (AfterB B w) (fun a' => wpOp P ops Q i1 (fun a'' w'' => Below B w w'' ∧ ∃ B', B ≤ B' ∧ t1.wp P ops Q T B' a'' w'') a' w ∧ wpOp P ops Q i2 (fun a'' w'' => Below B w w'' ∧ ∃ B', B ≤ B' ∧ t2.wp P ops Q T B' a'' w'') a' w) (pick ops rs) a

section
variable {P : Program} {ops : Array Oper} {Q : Exit → Act → World → Prop} {T : List Nat}
theorem PT.any (hsel : Region.noSelect ops = true) (hQ : ∀ c a t v w, Q (.panic c) (Act.put a (some t) v) w → Q (.panic c) a w) :
    ∀ (p : PT) (l : Array Bool) (B : Nat) (a : Act) (w : World), p.even T = true → p.ok ops T l = true → p.wp P ops Q T B a w → wpAnyT P ops Q (Below B w) T (p.len T) l a w
  | .fin last, l, B, a, w, _, hc, h => by
    simp only [PT.ok, Bool.and_eq_true] at hc
    exact segT_any hsel hQ B w _ T.length last l a hc.1 h (fun a' ha => seqT_any (fun _ h => h) T _ a' w (fun _ h => h) hc.2 ha)
  | .one rs i t, l, B, a, w, he, hc, h => by
    simp only [PT.ok, Bool.and_eq_true, beq_iff_eq] at hc
    simp only [PT.even] at he
    obtain ⟨h1, ⟨h2, h6⟩, h3⟩ := hc
    refine segT_any hsel hQ B w _ (1 + t.len T) rs l a h1 h (fun a' ha => ?_)
    rw [Nat.add_comm]
    refine ⟨fun h0 => (by rw [h2] at h0; cases h0), fun j hj => ?_⟩
    rw [h2] at hj
    obtain rfl : j = i := by simpa using hj
    refine wpOp_mono (fun a'' w'' hh => ⟨fun _ _ => hh.1, fun hm => by simp [hm] at h6, ?_⟩) ha
    obtain ⟨hb, B', hB, hm⟩ := hh
    exact wpAnyT_less (fun w3 h4 => hb.trans (h4.mono hB)) _ _ _ _ (PT.any hsel hQ t _ B' a'' w'' he h3 hm)
  | .two rs i1 t1 i2 t2, l, B, a, w, he, hc, h => by
    simp only [PT.ok, Bool.and_eq_true, beq_iff_eq] at hc
    simp only [PT.even, Bool.and_eq_true, beq_iff_eq] at he
    obtain ⟨h1, ⟨h2, m1, m2⟩, k1, k2⟩ := hc
    obtain ⟨e0, e1, e2⟩ := he
    refine segT_any hsel hQ B w _ (1 + t1.len T) rs l a h1 h (fun a' ha => ?_)
    rw [Nat.add_comm]
    refine ⟨fun h0 => (by rw [h2] at h0; cases h0), fun j hj => ?_⟩
    rw [h2] at hj
    rcases List.mem_cons.1 hj with rfl | hj
    · refine wpOp_mono (fun a'' w'' hh => ⟨fun _ _ => hh.1, fun hm => by simp [hm] at m1, ?_⟩) ha.1
      obtain ⟨hb, B', hB, hm⟩ := hh
      exact wpAnyT_less (fun w3 h4 => hb.trans (h4.mono hB)) _ _ _ _ (PT.any hsel hQ t1 _ B' a'' w'' e1 k1 hm)
    · obtain rfl : j = i2 := by simpa using hj
      rw [e0]
      refine wpOp_mono (fun a'' w'' hh => ⟨fun _ _ => hh.1, fun hm => by simp [hm] at m2, ?_⟩) ha.2
      obtain ⟨hb, B', hB, hm⟩ := hh
      exact wpAnyT_less (fun w3 h4 => hb.trans (h4.mono hB)) _ _ _ _ (PT.any hsel hQ t2 _ B' a'' w'' e2 k2 hm)

/-- The region, by its plan. -/
theorem wp_region_plan {id : Nat} {a : Act} {w : World} (B : Nat) (p : PT) (T : List Nat) (hm : P.follows .mixedOrders = true) (hsel : Region.noSelect ops = true)
    (hc : (p.ok ops T (Array.replicate ops.size false) && (p.even T && p.len T == ops.size)) = true) (hQ : ∀ c a t v w, Q (.panic c) (Act.put a (some t) v) w → Q (.panic c) a w)
    (h : p.wp P ops Q T B a w.drew) : (Code.region id ops true).wp P Q a w := by
  simp only [Bool.and_eq_true, beq_iff_eq] at hc
  obtain ⟨h1, h2, h3⟩ := hc
  have := PT.any hsel hQ p _ B a w.drew h2 h1 h
  rw [h3] at this
  exact wp_region_any hm (wpAnyT_any _ _ _ _ this)

theorem plan_one {rs : List Nat} {i : Nat} {t : PT} {B : Nat} {a : Act} {w : World} {l : List Oper} (hl : pick ops rs = l)
    (h : wpQuiet P ops (AfterB B w) (fun a' => wpOp P ops Q i (fun a'' w'' => Below B w w'' ∧ ∃ B', B ≤ B' ∧ t.wp P ops Q T B' a'' w'') a' w) l a) : (PT.one rs i t).wp P ops Q T B a w := by
  subst hl; exact h
theorem plan_two {rs : List Nat} {i1 i2 : Nat} {t1 t2 : PT} {B : Nat} {a : Act} {w : World} {l : List Oper} (hl : pick ops rs = l)
    (h : wpQuiet P ops (AfterB B w) (fun a' => wpOp P ops Q i1 (fun a'' w'' => Below B w w'' ∧ ∃ B', B ≤ B' ∧ t1.wp P ops Q T B' a'' w'') a' w ∧ wpOp P ops Q i2 (fun a'' w'' => Below B w w'' ∧ ∃ B', B ≤ B' ∧ t2.wp P ops Q T B' a'' w'') a' w) l a) : (PT.two rs i1 t1 i2 t2).wp P ops Q T B a w := by
  subst hl; exact h
theorem plan_fin {last : List Nat} {B : Nat} {a : Act} {w : World} {l t : List Oper} (hl : pick ops last = l) (ht : pick ops T = t)
    (h : wpQuiet P ops (AfterB B w) (fun a' => wpList P ops Q t a' w) l a) : (PT.fin last).wp P ops Q T B a w := by
  subst hl ht; exact h

/-- What a slice tells, cell by cell. -/
def Src (w : World) (A : Option Addr) (m c : Nat) (news : List Value) : Prop := (A = none → m = 0 ∧ c = 0 ∧ news = []) ∧ ∀ ad, A = some ad → ∀ j u, news[j]? = some u → w.cell? (ad.add j) = some u
theorem Src.below {w w' : World} {A : Option Addr} {m c B : Nat} {news : List Value} (h : Src w A m c news) (hb : Below B w w') (hA : ∀ a, A = some a → a.block < B) : Src w' A m c news :=
  ⟨h.1, fun ad e j u hu => by
    refine (World.cell?_of_block (w := w) (hb.block _ ?_)).trans (h.2 ad e j u hu)
    have : (ad.add j).block = ad.block := by unfold Addr.add; split <;> rfl
    rw [this]; exact hA ad e⟩
/-- append(own, src...) as an operation of such a region. -/
theorem tail_app {i B : Nat} {o : Oper} {a : Act} {w : World} {K : Nat → Act → World → Prop} (d : Option Tmp) (s x : Operand) (t e : TypeId) (hoi : ops[i]? = some o) (hd : o.dst = d) (hw : Region.wanted o (yielded ops a.tmps) = true)
    (ho : o.op = .call { callee := .builtin .append, args := #[s, x], argTypes := #[t, t] }) (ht : P.underlying t = some (.slice e)) (z : Value) (size bytes : Nat) (hinfo : (P.info? e).map (fun i => (i.zero, i.size, i.bytes)) = some (some z, size, bytes)) (hzs : z.cells.size = size) (hsz : 0 < size)
    (base : Nat) (v : Value) (n : Nat) (xs : List Value) (hs : a.eval s = v) (hown : w.ownsRow base e size v n xs) (hbB : B ≤ base) (hB : base ≤ w.heap.size)
    (A : Option Addr) (m c : Nat) (news : List Value) (hx : a.eval x = .slice A m c) (hl : news.length = m * size) (hr : Src w A m c news) (h1 : ∀ u ∈ news, u.oneCell' = true) (h63 : n + m ≤ 1000000) (hby : bytes ≤ 1000)
    (h : ∀ v' w', w'.ownsRow base e size v' (n + m) (xs ++ news) → Below B w w' → w.grownBy w' v.ownBlock → ∃ B', B ≤ B' ∧ K B' (a.put d v') w') : wpOp P ops Q i (fun a'' w'' => Below B w w'' ∧ ∃ B', B ≤ B' ∧ K B' a'' w'') a w := by
  subst hd
  obtain ⟨i0, hi, hz0, hz1, hz2⟩ := info_parts hinfo
  unfold wpOp
  simp only [hoi]
  rw [if_pos hw]
  rcases A with _ | ad
  · obtain ⟨rfl, rfl, rfl⟩ := hr.1 rfl
    have hrun := run_append_owned_none (P := P) (w := w) base t o.type e i0 size ht hi v n xs hown
    left
    unfold Oper.wp
    simp [execOp, ho, resolve, invoke, builtin, hs, hx, hrun, Result.andThen]
    exact ⟨Below.refl _ _, h v w (by simpa using hown) (Below.refl _ _) (World.grownBy.refl w _)⟩
  · refine .inl (wp_append_own w s x t ho base e i0 z size bytes ht hi hz0 hz1 hz2 hzs hsz v n _ hs hown ad m c news hx hl (hr.2 ad rfl) h1 (by unfold maxLen; omega) ?_ hB ?_)
    · exact Nat.le_trans (Nat.mul_le_mul h63 hby) (by omega)
    · intro v' w' k1 k2 _
      have hb' : Below B w w' := (Below.refl _ _).grown k2 (Nat.le_trans hbB hB) (fun k hk => Nat.le_trans hbB (hown.lt k hk).1)
      exact ⟨hb', h v' w' k1 hb' k2⟩
end
end Go.Proofs.Yteomiekjcnpnlaa
