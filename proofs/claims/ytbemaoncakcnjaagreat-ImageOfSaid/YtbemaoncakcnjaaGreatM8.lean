/- Texts of mine, joined: Mid, Hm5, Hm6, Hm7. -/
import Derived.Deep.Cut
import Derived.Test.YtbemaoncakcnjaaGreatM7

/- append(append(append([]T(none), s...), x), r...) in a region that draws its order: one walk for all its orders. No program in sight. -/
namespace Go.Proofs.YtbemaoncakcnjaaGreat
open Go.RowKit

theorem put_eval (a : Act) (d : Tmp) (v : Value) (hd : d < a.tmps.size) (s : Tmp) : (a.put (some d) v).eval (.tmp s) = if s = d then v else a.eval (.tmp s) := by
  show (a.tmps.setIfInBounds d v).getD s undef = _
  by_cases h : s = d
  · subst h
    rw [if_pos rfl, Array.getD_eq_getD_getElem?, Array.getElem?_setIfInBounds_self_of_lt hd]
    rfl
  · rw [if_neg h, Array.getD_eq_getD_getElem?, Array.getElem?_setIfInBounds_ne (fun e => h e.symm), ← Array.getD_eq_getD_getElem?]
    rfl
theorem put_size (a : Act) (d : Option Tmp) (v : Value) : (a.put d v).tmps.size = a.tmps.size := by
  cases d with
  | none => rfl
  | some d => exact Array.size_setIfInBounds
theorem put_swap (a : Act) (d d' : Tmp) (v v' : Value) (h : d ≠ d') : (a.put (some d) v).put (some d') v' = (a.put (some d') v').put (some d) v := by
  show Act.mk _ _ = Act.mk _ _
  congr 1
  exact Array.setIfInBounds_comm _ _ h

section
variable {P : Program} {ops : Array Oper} {Q : Exit → Act → World → Prop} {T : List Nat} {X : PT} {a : Act} {w : World} {e t : TypeId} {z : Value} {size bytes : Nat} {i1 i8 i10 i11 i18 : Nat} {d1 d8 d10 d11 d18 s8 s18 s10 : Tmp} {o1 o8 o10 o11 o18 : Oper}
  {A1 A2 : Option Addr} {m1 c1 m2 c2 : Nat} {n1 n2 : List Value} {cv : Array Value}
/-- What the region's five operations are. -/
structure Mid (P : Program) (ops : Array Oper) (a : Act) (w : World) (e t : TypeId) (z : Value) (size bytes : Nat) (i1 i8 i10 i11 i18 : Nat) (d1 d8 d10 d11 d18 s8 s18 s10 : Tmp) (o1 o8 o10 o11 o18 : Oper) (A1 A2 : Option Addr) (m1 c1 m2 c2 : Nat) (n1 n2 : List Value) (cv : Array Value) : Prop where
  g1 : ops[i1]? = some o1 ∧ o1.dst = some d1 ∧ ∀ y, Region.wanted o1 y = true
  g8 : ops[i8]? = some o8 ∧ o8.dst = some d8 ∧ ∀ y, Region.wanted o8 y = true
  g10 : ops[i10]? = some o10 ∧ o10.dst = some d10 ∧ ∀ y, Region.wanted o10 y = true
  g11 : ops[i11]? = some o11 ∧ o11.dst = some d11 ∧ ∀ y, Region.wanted o11 y = true
  g18 : ops[i18]? = some o18 ∧ o18.dst = some d18 ∧ ∀ y, Region.wanted o18 y = true
  r1 : ∀ (b : Act) (v : World), (execOp b.eval o1).run P v = .ok (.value (.slice (some ⟨v.heap.size, 0, none⟩) 0 0)) (v.alloc (.cells #[] e))
  r10 : ∀ (b : Act) (v : World), b.eval (.tmp s10) = a.eval (.tmp s10) → (execOp b.eval o10).run P v = .ok (.value (.slice (some ⟨v.heap.size, 0, none⟩) 1 1)) (v.alloc (.cells cv e))
  k8 : o8.op = .call { callee := .builtin .append, args := #[.tmp d1, .tmp s8], argTypes := #[t, t] }
  k11 : o11.op = .call { callee := .builtin .append, args := #[.tmp d8, .tmp d10], argTypes := #[t, t] }
  k18 : o18.op = .call { callee := .builtin .append, args := #[.tmp d11, .tmp s18], argTypes := #[t, t] }
  ht : P.underlying t = some (.slice e)
  info : (P.info? e).map (fun i => (i.zero, i.size, i.bytes)) = some (some z, size, bytes)
  hz : z.cells.size = size
  h0 : 0 < size
  hby : bytes ≤ 1000
  ne : [d1, d8, d10, d11, d18].Nodup ∧ ∀ s ∈ [s8, s18, s10], s ∉ [d1, d8, d10, d11, d18]
  lt : d1 < a.tmps.size ∧ d8 < a.tmps.size ∧ d10 < a.tmps.size ∧ d11 < a.tmps.size ∧ d18 < a.tmps.size
  e8 : a.eval (.tmp s8) = .slice A1 m1 c1
  e18 : a.eval (.tmp s18) = .slice A2 m2 c2
  l1 : n1.length = m1 * size
  l2 : n2.length = m2 * size
  q1 : Src w A1 m1 c1 n1
  q2 : Src w A2 m2 c2 n2
  b1 : ∀ ad, A1 = some ad → ad.block < w.heap.size
  b2 : ∀ ad, A2 = some ad → ad.block < w.heap.size
  u1 : ∀ u ∈ n1, u.oneCell' = true
  u2 : ∀ u ∈ n2, u.oneCell' = true
  cvl : cv.size = size
  cvu : ∀ u ∈ cv.toList, u.oneCell' = true
  small : m1 + m2 ≤ 900000
variable (M : Mid P ops a w e t z size bytes i1 i8 i10 i11 i18 d1 d8 d10 d11 d18 s8 s18 s10 o1 o8 o10 o11 o18 A1 A2 m1 c1 m2 c2 n1 n2 cv)
/-- What is to hold behind the last append. -/
def MidK (P : Program) (ops : Array Oper) (Q : Exit → Act → World → Prop) (T : List Nat) (X : PT) (a : Act) (w : World) (e : TypeId) (size : Nat) (d1 d8 d10 d11 d18 : Tmp) (m1 m2 : Nat) (n1 n2 : List Value) (cv : Array Value) : Prop :=
  ∀ v1 v8 v10 v11 v18 w', w'.ownsRow w.heap.size e size v18 (m1 + 1 + m2) (n1 ++ (cv.toList ++ n2)) → Below w.heap.size w w' → X.wp P ops Q T w.heap.size (((((a.put (some d1) v1).put (some d8) v8).put (some d10) v10).put (some d11) v11).put (some d18) v18) w'
include M
theorem mid_end (hK : MidK P ops Q T X a w e size d1 d8 d10 d11 d18 m1 m2 n1 n2 cv) (v1 v8 v10 : Value) (g10 : Nat) (w3 : World) (hv10 : v10 = .slice (some ⟨g10, 0, none⟩) 1 1) (hg : w3.heap[g10]? = some (.cells cv e (0, 0))) (hown : w3.ownsRow w.heap.size e size v8 m1 n1) (hb : Below w.heap.size w w3) :
    (PT.one [] i11 (.one [] i18 X)).wp P ops Q T w.heap.size (((a.put (some d1) v1).put (some d8) v8).put (some d10) v10) w3 := by
  obtain ⟨lt1, lt8, lt10, lt11, lt18⟩ := M.lt
  have ne := M.ne.1
  simp only [List.nodup_cons, List.mem_cons, List.not_mem_nil, or_false, not_or, List.nodup_nil, and_true] at ne
  have n18 := M.ne.2 s18 (by simp)
  simp only [List.mem_cons, List.not_mem_nil, or_false, not_or] at n18
  have hsrc : Src w3 (some ⟨g10, 0, none⟩) 1 1 cv.toList := ⟨fun e => (by cases e), fun ad ea j u hu => by
    injection ea with ea
    subst ea
    have ea : (⟨g10, 0, none⟩ : Addr).add j = ⟨g10, j, none⟩ := by unfold Addr.add; split <;> simp_all
    rw [ea, cell_of_row w3 _ j _ _ (0, 0) hg]
    simpa using hu⟩
  refine plan_one (l := []) rfl (wpQuiet_nil ?_)
  refine tail_app (some d11) (.tmp d8) (.tmp d10) t e M.g11.1 M.g11.2.1 (M.g11.2.2 _) M.k11 M.ht z size bytes M.info M.hz M.h0 w.heap.size v8 m1 n1 ?_ hown (Nat.le_refl _) hb.size (some ⟨g10, 0, none⟩) 1 1 cv.toList ?_ (by rw [Array.length_toList, M.cvl]; omega) hsrc M.cvu (by have := M.small; omega) M.hby ?_
  · rw [put_eval _ _ _ (by rw [put_size, put_size]; exact lt10), if_neg ne.2.1.1, put_eval _ _ _ (by rw [put_size]; exact lt8), if_pos rfl]
  · rw [put_eval _ _ _ (by rw [put_size, put_size]; exact lt10), if_pos rfl, hv10]
  intro v11 w4 own4 hb4 _
  have hb04 := hb.trans hb4
  refine ⟨w.heap.size, Nat.le_refl _, ?_⟩
  refine plan_one (l := []) rfl (wpQuiet_nil ?_)
  refine tail_app (some d18) (.tmp d11) (.tmp s18) t e M.g18.1 M.g18.2.1 (M.g18.2.2 _) M.k18 M.ht z size bytes M.info M.hz M.h0 w.heap.size v11 (m1 + 1) (n1 ++ cv.toList) ?_ own4 (Nat.le_refl _) hb04.size A2 m2 c2 n2 ?_ M.l2 (M.q2.below hb04 M.b2) M.u2 (by have := M.small; omega) M.hby ?_
  · rw [put_eval _ _ _ (by rw [put_size, put_size, put_size]; exact lt11), if_pos rfl]
  · rw [put_eval _ _ _ (by rw [put_size, put_size, put_size]; exact lt11), if_neg n18.2.2.2.1, put_eval _ _ _ (by rw [put_size, put_size]; exact lt10), if_neg n18.2.2.1, put_eval _ _ _ (by rw [put_size]; exact lt8), if_neg n18.2.1, put_eval _ _ _ lt1, if_neg n18.1, M.e18]
  intro v18 w5 own5 hb5 _
  refine ⟨w.heap.size, Nat.le_refl _, ?_⟩
  exact hK v1 v8 v10 v11 v18 w5 (by rw [← List.append_assoc]; exact own5) (hb04.trans hb5)

/-- [] is made, s appended, x made. -/
theorem mid_a (hK : MidK P ops Q T X a w e size d1 d8 d10 d11 d18 m1 m2 n1 n2 cv) :
    wpOp P ops Q i1 (fun a'' w'' => Below w.heap.size w w'' ∧ ∃ B', w.heap.size ≤ B' ∧ (PT.two [] i8 (.one [] i10 (.one [] i11 (.one [] i18 X))) i10 (.one [] i8 (.one [] i11 (.one [] i18 X)))).wp P ops Q T B' a'' w'') a w := by
  obtain ⟨lt1, lt8, lt10, lt11, lt18⟩ := M.lt
  have ne := M.ne.1
  simp only [List.nodup_cons, List.mem_cons, List.not_mem_nil, or_false, not_or, List.nodup_nil, and_true] at ne
  have n8 := M.ne.2 s8 (by simp)
  have n10 := M.ne.2 s10 (by simp)
  simp only [List.mem_cons, List.not_mem_nil, or_false, not_or] at n8 n10
  obtain ⟨w1, hw1⟩ : ∃ w1, w.alloc (.cells #[] e) = w1 := ⟨_, rfl⟩
  have b1 : Below w.heap.size w w1 := by rw [← hw1]; exact (Below.refl _ _).alloc (Nat.le_refl _) _
  have own1 : w1.ownsRow w.heap.size e size (.slice (some ⟨w.heap.size, 0, none⟩) 0 0) 0 [] := by rw [← hw1]; exact World.ownsRow_lit w _ 0 (Nat.le_refl _) (by unfold maxLen; omega) (by simp)
  refine tail_val2 (some d1) M.g1.1 M.g1.2.1 (M.g1.2.2 _) (by rw [M.r1, hw1]) b1 ⟨w.heap.size, Nat.le_refl _, ?_⟩
  obtain ⟨a1, ha1⟩ : ∃ a1, a.put (some d1) (.slice (some ⟨w.heap.size, 0, none⟩) 0 0) = a1 := ⟨_, rfl⟩
  have ev1 : ∀ s, a1.eval (.tmp s) = if s = d1 then .slice (some ⟨w.heap.size, 0, none⟩) 0 0 else a.eval (.tmp s) := fun s => by rw [← ha1, put_eval _ _ _ lt1]
  have sz1 : a1.tmps.size = a.tmps.size := by rw [← ha1, put_size]
  rw [ha1]
  refine plan_two (l := []) rfl (wpQuiet_nil ⟨?_, ?_⟩)
  · refine tail_app (some d8) (.tmp d1) (.tmp s8) t e M.g8.1 M.g8.2.1 (M.g8.2.2 _) M.k8 M.ht z size bytes M.info M.hz M.h0 w.heap.size _ 0 [] (by rw [ev1, if_pos rfl]) own1 (Nat.le_refl _) b1.size A1 m1 c1 n1 (by rw [ev1, if_neg n8.1, M.e8]) M.l1 (M.q1.below b1 M.b1) M.u1 (by have := M.small; omega) M.hby ?_
    intro v8 w2 own2 hb2 _
    rw [Nat.zero_add, List.nil_append] at own2
    have hb02 := b1.trans hb2
    refine ⟨w.heap.size, Nat.le_refl _, ?_⟩
    refine plan_one (l := []) rfl (wpQuiet_nil ?_)
    obtain ⟨w3, hw3⟩ : ∃ w3, w2.alloc (.cells cv e) = w3 := ⟨_, rfl⟩
    have b3 : Below w2.heap.size w2 w3 := by rw [← hw3]; exact (Below.refl _ _).alloc (Nat.le_refl _) _
    refine tail_val2 (some d10) M.g10.1 M.g10.2.1 (M.g10.2.2 _) (by rw [M.r10 _ w2 (by rw [put_eval _ _ _ (by rw [sz1]; exact lt8), if_neg n10.2.1, ev1, if_neg n10.1]), hw3]) (b3.mono hb02.size) ⟨w.heap.size, Nat.le_refl _, ?_⟩
    rw [← ha1]
    refine mid_end M hK _ v8 _ w2.heap.size w3 rfl (by rw [← hw3]; exact heap_alloc_new w2 _) (own_below' own2 b3) (hb02.trans (b3.mono hb02.size))
  · obtain ⟨w2, hw2⟩ : ∃ w2, w1.alloc (.cells cv e) = w2 := ⟨_, rfl⟩
    have b2 : Below w1.heap.size w1 w2 := by rw [← hw2]; exact (Below.refl _ _).alloc (Nat.le_refl _) _
    have hb02 := b1.trans (b2.mono b1.size)
    refine tail_val2 (some d10) M.g10.1 M.g10.2.1 (M.g10.2.2 _) (by rw [M.r10 _ w1 (by rw [ev1, if_neg n10.1]), hw2]) (b2.mono b1.size) ⟨w.heap.size, Nat.le_refl _, ?_⟩
    refine plan_one (l := []) rfl (wpQuiet_nil ?_)
    have n2' : w2.heap[w1.heap.size]? = some (.cells cv e (0, 0)) := by rw [← hw2]; exact heap_alloc_new w1 _
    have hw1lt : w1.heap.size < w2.heap.size := heap_lt n2'
    refine tail_app (some d8) (.tmp d1) (.tmp s8) t e M.g8.1 M.g8.2.1 (M.g8.2.2 _) M.k8 M.ht z size bytes M.info M.hz M.h0 w.heap.size (.slice (some ⟨w.heap.size, 0, none⟩) 0 0) 0 [] ?_ (own_below' own1 b2) (Nat.le_refl _) hb02.size A1 m1 c1 n1 ?_ M.l1 (M.q1.below hb02 M.b1) M.u1 (by have := M.small; omega) M.hby ?_
    · rw [put_eval _ _ _ (by rw [sz1]; exact lt10), if_neg (fun h => ne.1.2.1 h), ev1, if_pos rfl]
    · rw [put_eval _ _ _ (by rw [sz1]; exact lt10), if_neg n8.2.2.1, ev1, if_neg n8.1, M.e8]
    intro v8 w3 own3 hb3 gr3
    rw [Nat.zero_add, List.nil_append] at own3
    refine ⟨w.heap.size, Nat.le_refl _, ?_⟩
    rw [put_swap _ d10 d8 _ _ (fun h => ne.2.1.1 h.symm), ← ha1]
    have hg3 : w3.heap[w1.heap.size]? = some (.cells cv e (0, 0)) := (gr3.block _ hw1lt (fun h => by injection h with h; dsimp only at h; have hs : w.heap.size < w1.heap.size := (by rw [← hw1]; simp); omega)).trans n2'
    exact mid_end M hK _ v8 _ w1.heap.size w3 rfl hg3 own3 (hb02.trans hb3)
/-- x is made, [] is made, s appended. -/
theorem mid_b (hK : MidK P ops Q T X a w e size d1 d8 d10 d11 d18 m1 m2 n1 n2 cv) :
    wpOp P ops Q i10 (fun a'' w'' => Below w.heap.size w w'' ∧ ∃ B', w.heap.size ≤ B' ∧ (PT.one [] i1 (.one [] i8 (.one [] i11 (.one [] i18 X)))).wp P ops Q T B' a'' w'') a w := by
  obtain ⟨lt1, lt8, lt10, lt11, lt18⟩ := M.lt
  have ne := M.ne.1
  simp only [List.nodup_cons, List.mem_cons, List.not_mem_nil, or_false, not_or, List.nodup_nil, and_true] at ne
  have n8 := M.ne.2 s8 (by simp)
  simp only [List.mem_cons, List.not_mem_nil, or_false, not_or] at n8
  obtain ⟨w1, hw1⟩ : ∃ w1, w.alloc (.cells cv e) = w1 := ⟨_, rfl⟩
  have b1 : Below w.heap.size w w1 := by rw [← hw1]; exact (Below.refl _ _).alloc (Nat.le_refl _) _
  have g1 : w1.heap[w.heap.size]? = some (.cells cv e (0, 0)) := by rw [← hw1]; exact heap_alloc_new w _
  refine tail_val2 (some d10) M.g10.1 M.g10.2.1 (M.g10.2.2 _) (by rw [M.r10 _ w rfl, hw1]) b1 ⟨w.heap.size, Nat.le_refl _, ?_⟩
  refine plan_one (l := []) rfl (wpQuiet_nil ?_)
  obtain ⟨w2, hw2⟩ : ∃ w2, w1.alloc (.cells #[] e) = w2 := ⟨_, rfl⟩
  have b2 : Below w1.heap.size w1 w2 := by rw [← hw2]; exact (Below.refl _ _).alloc (Nat.le_refl _) _
  have hb02 := b1.trans (b2.mono b1.size)
  have own2 : w2.ownsRow w.heap.size e size (.slice (some ⟨w1.heap.size, 0, none⟩) 0 0) 0 [] := by rw [← hw2]; exact World.ownsRow_lit w1 _ 0 b1.size (by unfold maxLen; omega) (by simp)
  have hlt1 : w.heap.size < w1.heap.size := heap_lt g1
  refine tail_val2 (some d1) M.g1.1 M.g1.2.1 (M.g1.2.2 _) (by rw [M.r1, hw2]) (b2.mono b1.size) ⟨w.heap.size, Nat.le_refl _, ?_⟩
  refine plan_one (l := []) rfl (wpQuiet_nil ?_)
  refine tail_app (some d8) (.tmp d1) (.tmp s8) t e M.g8.1 M.g8.2.1 (M.g8.2.2 _) M.k8 M.ht z size bytes M.info M.hz M.h0 w.heap.size (.slice (some ⟨w1.heap.size, 0, none⟩) 0 0) 0 [] ?_ own2 (Nat.le_refl _) hb02.size A1 m1 c1 n1 ?_ M.l1 (M.q1.below hb02 M.b1) M.u1 (by have := M.small; omega) M.hby ?_
  · rw [put_eval _ _ _ (by rw [put_size]; exact lt1), if_pos rfl]
  · rw [put_eval _ _ _ (by rw [put_size]; exact lt1), if_neg n8.1, put_eval _ _ _ lt10, if_neg n8.2.2.1, M.e8]
  intro v8 w3 own3 hb3 gr3
  rw [Nat.zero_add, List.nil_append] at own3
  refine ⟨w.heap.size, Nat.le_refl _, ?_⟩
  have hg3 : w3.heap[w.heap.size]? = some (.cells cv e (0, 0)) := (gr3.block _ (Nat.lt_of_lt_of_le hlt1 b2.size) (fun h => by injection h with h; dsimp only at h; omega)).trans ((b2.block _ hlt1).trans g1)
  rw [put_swap _ d10 d1 _ _ (fun h => ne.1.2.1 h.symm), put_swap _ d10 d8 _ _ (fun h => ne.2.1.1 h.symm)]
  exact mid_end M hK _ v8 _ w.heap.size w3 rfl hg3 own3 (hb02.trans hb3)
theorem mid_both (hK : MidK P ops Q T X a w e size d1 d8 d10 d11 d18 m1 m2 n1 n2 cv) :
    wpOp P ops Q i1 (fun a'' w'' => Below w.heap.size w w'' ∧ ∃ B', w.heap.size ≤ B' ∧ (PT.two [] i8 (.one [] i10 (.one [] i11 (.one [] i18 X))) i10 (.one [] i8 (.one [] i11 (.one [] i18 X)))).wp P ops Q T B' a'' w'') a w ∧
    wpOp P ops Q i10 (fun a'' w'' => Below w.heap.size w w'' ∧ ∃ B', w.heap.size ≤ B' ∧ (PT.one [] i1 (.one [] i8 (.one [] i11 (.one [] i18 X)))).wp P ops Q T B' a'' w'') a w := ⟨mid_a M hK, mid_b M hK⟩
end
end Go.Proofs.YtbemaoncakcnjaaGreat

/- The contract of the document's heap: put. -/
namespace Go.Proofs.YtbemaoncakcnjaaGreat
open Go.RowKit

theorem run_one_b (w : World) (o s : Int) (u : Bool) : (Instr.buildSlice 28 1 #[(0, .agg #[.int .i64 o, .int .i64 s, .bool u])]).run Tryz.prog w = .ok (.slice (some ⟨w.heap.size, 0, none⟩) 1 1) (w.alloc (.cells #[.int .i64 o, .int .i64 s, .bool u] 51)) := by
  simp [go_sem]
theorem run_one_s (w : World) : (Instr.buildSlice 29 1 #[(0, .slice none 0 0)]).run Tryz.prog w = .ok (.slice (some ⟨w.heap.size, 0, none⟩) 1 1) (w.alloc (.cells #[.slice none 0 0] 23)) := by
  simp [go_sem]
theorem src_nil (w : World) (m : Nat) (hm : m = 0) : Src w none m 0 [] := ⟨fun _ => ⟨hm, rfl, rfl⟩, fun ad e => (by cases e)⟩

section
variable {F : Nat → Prop} {w w' : World} {p gl : Nat} {H : Hp} {Vb Vd : Value} {cs : List Value}
/-- A row is nil, full, or neither. -/
theorem own_way {n size : Nat} {t : TypeId} {V : Value} {xs : List Value} (h : w.ownsRow 0 t size V n xs) (i : Nat) (hi : i ≤ n) : (V = .slice none 0 0 ∧ n = 0 ∧ i = 0) ∨ (∃ b, V = .slice (some ⟨b, 0, none⟩) n i ∧ b < w.heap.size ∧ n = i ∧ i ≤ 9223372036854775807) ∨ ∃ b c, V = .slice (some ⟨b, 0, none⟩) n c ∧ b < w.heap.size ∧ n ≤ c ∧ c ≠ i ∧ c ≤ 9223372036854775807 := by
  rcases h.2 with ⟨rfl, h0⟩ | ⟨b, c, cur, rfl, _, hh, hnc, hm, _⟩
  · exact .inl ⟨rfl, h0, by omega⟩
  · unfold maxLen at hm
    by_cases hc : c = i
    · subst hc
      exact .inr (.inl ⟨b, rfl, heap_lt hh, by omega, hm⟩)
    · exact .inr (.inr ⟨b, c, rfl, heap_lt hh, hnc, hc, hm⟩)

set_option maxHeartbeats 4000000 in
theorem hput_all (n i : Nat) (h : Hm F w p H Vb Vd gl cs) (hN : H.blks.length = n) (hi : i ≤ n) (hn : n ≤ 100000) (hdl : H.ds.length = n) (x : Bk) :
    Calls Tryz.prog 76 #[.pointer (some ⟨p, 0, none⟩), .int .i64 (i : Int), .agg #[.int .i64 (x.off : Int), .int .i64 (x.size : Int), .bool x.used]] w fun e w' => e = .returned (.tuple #[]) ∧ HT F w p (H.put i x) w' := by
  obtain ⟨w0, hw0⟩ : ∃ w0, w.alloc (.cells #[.int .i64 (x.off : Int), .int .i64 (x.size : Int), .bool x.used] 51) = w0 := ⟨_, rfl⟩
  obtain ⟨wd, hwd⟩ : ∃ wd, w0.drew = wd := ⟨_, rfl⟩
  have hbd : Below w.heap.size w wd := by rw [← hwd, ← hw0]; exact ((Below.refl _ _).alloc (Nat.le_refl _) _).drew
  obtain ⟨gx, hgxe⟩ : ∃ gx, w.heap.size = gx := ⟨_, rfl⟩
  have hnx : wd.heap[gx]? = some (.cells #[.int .i64 (x.off : Int), .int .i64 (x.size : Int), .bool x.used] 51 (0, 0)) := by rw [← hwd, ← hw0, ← hgxe]; exact heap_alloc_new w _
  have GX := Lib.hid (blk_cells hnx).1
  have hgx : gx < wd.heap.size := heap_lt hnx
  have HH := Lib.hid h
  have HH1 := Lib.hid (h.below hbd)
  have HN := Lib.hid hN
  have HDL : Hid (H.ds.length = n) := hdl
  have HGX := Lib.hid hgxe
  have HWD1 : Hid ((w.alloc (.cells #[.int .i64 (x.off : Int), .int .i64 (x.size : Int), .bool x.used] 51)).drew = wd) := (show _ = _ by rw [hw0]; exact hwd)
  have HBD := Lib.hid hbd
  have EE1 := Lib.hid HH1.out.c1
  have hpd1 := HH1.out.lt
  have hob : wd.ownsRow 0 51 3 Vb n (flatK H.blks) := by have e := HH1.out.ob; rw [hN] at e; exact e
  have HOB := Lib.hid hob
  clear h hN hdl hw0 hwd hbd hgxe hnx hob
  go_enter Tryz.func76, Tryz.ntmps76
  go_wp2_with fail
  rw [HGX.out]
  go_cut [] from 6 (fun wx => ∃ V1, Hm (fun k => F k ∨ V1.ownBlock = some k) wx p { H with blks := H.blks.take i ++ x :: H.blks.drop i } V1 Vd gl cs ∧ Tch F w wx ∧ ∀ k, V1.ownBlock = some k → w.heap.size ≤ k)
  case first =>
    have hob := HOB.out
    clear HOB
    rcases own_way hob i hi with ⟨rfl, hz1, _⟩ | ⟨b1, rfl, _, hf1, _⟩ | ⟨b1, c1, rfl, _, hc1, hd1, _⟩
    · have HN0 := Lib.hid hz1
      clear hz1 hob
      refine wp_region_plan wd.heap.size (.two [0, 2, 3, 4, 5, 6, 7, 9, 12, 13, 14, 15, 16, 17] 1 (.two [] 8 (.one [] 10 (.one [] 11 (.one [] 18 (.fin [19, 20])))) 10 (.one [] 8 (.one [] 11 (.one [] 18 (.fin [19, 20]))))) 10 (.one [] 1 (.one [] 8 (.one [] 11 (.one [] 18 (.fin [19, 20])))))) [21] (by kernel_rfl) (by kernel_rfl) (by kernel_rfl) (fun _ _ _ _ _ h => h) ?_
      rw [HWD1.out]
      have t1 : ∀ z : LaterB wd.heap.size wd, z.val.cell? ⟨p, 1, none⟩ = some (.slice none 0 0) := fun z => (z.ext.cell (p := ⟨p, 1, none⟩) hpd1).trans EE1.out
      have hi0v : i ≤ 0 := by have := HN0.out; omega
      have t2 : ∀ z : LaterB wd.heap.size wd, z.val.cell? ⟨gx, 0, none⟩ = some (.int .i64 (x.off : Int)) := fun z => (z.ext.cell (p := ⟨gx, 0, none⟩) hgx).trans GX.out.1
      have t3 : ∀ z : LaterB wd.heap.size wd, z.val.cell? ⟨gx, 1, none⟩ = some (.int .i64 (x.size : Int)) := fun z => (z.ext.cell (p := ⟨gx, 1, none⟩) hgx).trans GX.out.2.1
      have t4 : ∀ z : LaterB wd.heap.size wd, z.val.cell? ⟨gx, 2, none⟩ = some (.bool x.used) := fun z => (z.ext.cell (p := ⟨gx, 2, none⟩) hgx).trans GX.out.2.2
      refine plan_two (l := ?seg1n) ?hseg1n ?_
      case hseg1n => simp only [pick, List.getElem?_toArray, List.getElem?_cons_succ, List.getElem?_cons_zero]; rfl
      repeat (go_big_quiet_step (fail))
      refine wpQuiet_nil ?_
      clear t1 t2 t3 t4 hi0v
      refine mid_both (e := 51) (t := 28) (z := (.agg #[.int .i64 0, .int .i64 0, .bool false])) (size := 3) (bytes := 24) (d1 := 7) (d8 := 14) (d10 := 16) (d11 := 17) (d18 := 24) (s8 := 13) (s18 := 23) (s10 := 15) (A1 := none) (A2 := none) (m1 := 0) (c1 := 0) (m2 := 0) (c2 := 0) (n1 := []) (n2 := []) (cv := #[.int .i64 (x.off : Int), .int .i64 (x.size : Int), .bool x.used]) ⟨⟨rfl, rfl, fun _ => rfl⟩, ⟨rfl, rfl, fun _ => rfl⟩, ⟨rfl, rfl, fun _ => rfl⟩, ⟨rfl, rfl, fun _ => rfl⟩, ⟨rfl, rfl, fun _ => rfl⟩, fun b v => bslice_run rfl rfl (run_none_b v), fun b v hb => bslice_run rfl (by show [(0, b.eval (.tmp 15))] = _; rw [hb]; rfl) (run_one_b v (x.off : Int) (x.size : Int) x.used), rfl, rfl, rfl, Tryz.underlying28, bk_inf, rfl, by decide, by decide, by decide, ⟨Nat.lt_of_lt_of_eq (m := 47) (by decide) rfl, Nat.lt_of_lt_of_eq (m := 47) (by decide) rfl, Nat.lt_of_lt_of_eq (m := 47) (by decide) rfl, Nat.lt_of_lt_of_eq (m := 47) (by decide) rfl, Nat.lt_of_lt_of_eq (m := 47) (by decide) rfl⟩, rfl, rfl, rfl, rfl, (src_nil _ _ rfl), (src_nil _ _ rfl), (fun a e => (by cases e)), (fun a e => (by cases e)), (fun u hu => (by cases hu)), (fun u hu => (by cases hu)), rfl, (by intro u hu; simp only [List.mem_cons, List.not_mem_nil, or_false] at hu; rcases hu with rfl | rfl | rfl <;> rfl), by omega⟩ ?_
      intro r1 r8 r10 r11 u1 v1 ownu1 bv21
      simp only [Act.put, List.setIfInBounds_toArray, List.set_cons_zero, List.set_cons_succ]
      simp only [Nat.add_zero, Nat.zero_add] at ownu1
      obtain ⟨uA1, uc1, rfl⟩ := own_sl ownu1
      have hrow1 : v1.ownsRow wd.heap.size 51 3 (.slice uA1 1 uc1) (H.blks.take i ++ x :: H.blks.drop i).length (flatK (H.blks.take i ++ x :: H.blks.drop i)) := by
        have hnil : H.blks = [] := List.eq_nil_of_length_eq_zero (by have := HN.out; have := HN0.out; omega)
        have e := ownu1
        have hi0 : i = 0 := by have := HN0.out; omega
        subst hi0
        rw [hnil]
        exact e
      have HM1 := Lib.hid (HH1.out.below bv21)
      have hm2' := HM1.out.bset _ _ (own_base hrow1 (Nat.zero_le _))
      have htc : Tch F w (v1.setCell ⟨p, 1, none⟩ (.slice uA1 (1) uc1)) := (Tch.of_below (S := F) (HBD.out.trans (bv21.mono HBD.out.size))).trans (Tch.set v1 ⟨p, 1, none⟩ _ HH.out.fp) (fun _ _ h => h)
      have HRES := Lib.hid (And.intro hm2' (And.intro htc (fun k hk => Nat.le_trans HBD.out.size (hrow1.lt k hk).1)))
      clear ownu1 hrow1 bv21 hm2' htc
      have q1 := HM1.out.c1
      have f1 := HM1.out.thaw 1
      have hp1 := HM1.out.lt
      refine plan_fin (l := ?la1n) (t := ?tl1n) ?hla1n ?htl1n ?_
      case hla1n => simp only [pick, List.getElem?_toArray, List.getElem?_cons_succ, List.getElem?_cons_zero]; rfl
      case htl1n => simp only [pick, List.getElem?_toArray, List.getElem?_cons_succ, List.getElem?_cons_zero]; rfl
      repeat (go_big_quiet_step (fail))
      refine wpQuiet_nil ?_
      go_wp2_with fail
      go_meet
      case rel => exact ⟨_, HRES.out⟩
    · have HNI := Lib.hid hf1
      clear hf1
      have K1 := Lib.hid hob
      have hbd1 : b1 < wd.heap.size := own_lt K1.out rfl
      clear hob
      refine wp_region_plan wd.heap.size (.two [0, 2, 3, 4, 5, 6, 7, 9, 12, 13, 14, 15, 16, 17] 1 (.two [] 8 (.one [] 10 (.one [] 11 (.one [] 18 (.fin [19, 20])))) 10 (.one [] 8 (.one [] 11 (.one [] 18 (.fin [19, 20]))))) 10 (.one [] 1 (.one [] 8 (.one [] 11 (.one [] 18 (.fin [19, 20])))))) [21] (by kernel_rfl) (by kernel_rfl) (by kernel_rfl) (fun _ _ _ _ _ h => h) ?_
      rw [HWD1.out]
      have t1 : ∀ z : LaterB wd.heap.size wd, z.val.cell? ⟨p, 1, none⟩ = some (.slice (some ⟨b1, 0, none⟩) n i) := fun z => (z.ext.cell (p := ⟨p, 1, none⟩) hpd1).trans EE1.out
      have t2 : ∀ z : LaterB wd.heap.size wd, z.val.cell? ⟨gx, 0, none⟩ = some (.int .i64 (x.off : Int)) := fun z => (z.ext.cell (p := ⟨gx, 0, none⟩) hgx).trans GX.out.1
      have t3 : ∀ z : LaterB wd.heap.size wd, z.val.cell? ⟨gx, 1, none⟩ = some (.int .i64 (x.size : Int)) := fun z => (z.ext.cell (p := ⟨gx, 1, none⟩) hgx).trans GX.out.2.1
      have t4 : ∀ z : LaterB wd.heap.size wd, z.val.cell? ⟨gx, 2, none⟩ = some (.bool x.used) := fun z => (z.ext.cell (p := ⟨gx, 2, none⟩) hgx).trans GX.out.2.2
      refine plan_two (l := ?seg1f) ?hseg1f ?_
      case hseg1f => simp only [pick, List.getElem?_toArray, List.getElem?_cons_succ, List.getElem?_cons_zero]; rfl
      repeat (go_big_quiet_step (fail))
      refine wpQuiet_nil ?_
      clear t1 t2 t3 t4
      refine mid_both (e := 51) (t := 28) (z := (.agg #[.int .i64 0, .int .i64 0, .bool false])) (size := 3) (bytes := 24) (d1 := 7) (d8 := 14) (d10 := 16) (d11 := 17) (d18 := 24) (s8 := 13) (s18 := 23) (s10 := 15) (A1 := (some ⟨b1, 0, none⟩)) (A2 := (some ⟨b1, 0, none⟩)) (m1 := i) (c1 := i) (m2 := (n - i)) (c2 := 0) (n1 := (((flatK H.blks).drop (0 * 3)).take (i * 3))) (n2 := (((flatK H.blks).drop (i * 3)).take ((n - i) * 3))) (cv := #[.int .i64 (x.off : Int), .int .i64 (x.size : Int), .bool x.used]) ⟨⟨rfl, rfl, fun _ => rfl⟩, ⟨rfl, rfl, fun _ => rfl⟩, ⟨rfl, rfl, fun _ => rfl⟩, ⟨rfl, rfl, fun _ => rfl⟩, ⟨rfl, rfl, fun _ => rfl⟩, fun b v => bslice_run rfl rfl (run_none_b v), fun b v hb => bslice_run rfl (by show [(0, b.eval (.tmp 15))] = _; rw [hb]; rfl) (run_one_b v (x.off : Int) (x.size : Int) x.used), rfl, rfl, rfl, Tryz.underlying28, bk_inf, rfl, by decide, by decide, by decide, ⟨Nat.lt_of_lt_of_eq (m := 47) (by decide) rfl, Nat.lt_of_lt_of_eq (m := 47) (by decide) rfl, Nat.lt_of_lt_of_eq (m := 47) (by decide) rfl, Nat.lt_of_lt_of_eq (m := 47) (by decide) rfl, Nat.lt_of_lt_of_eq (m := 47) (by decide) rfl⟩, rfl, rfl, (by have := K1.out.1; rw [List.length_take, List.length_drop]; omega), (by have := K1.out.1; rw [List.length_take, List.length_drop]; omega), ((own_part K1.out 0 i (by omega) ⟨b1, 0, none⟩ (.inr (by rw [Nat.zero_mul]))).cap (c' := i)), ((own_part K1.out i (n - i) (by omega) ⟨b1, 0, none⟩ (.inl (by have := HNI.out; omega))).cap (c' := 0)), (fun a e => (by cases e; exact hbd1)), (fun a e => (by cases e; exact hbd1)), (fun u hu => (flatK_one H.blks) u (List.mem_of_mem_drop (List.mem_of_mem_take hu))), (fun u hu => (flatK_one H.blks) u (List.mem_of_mem_drop (List.mem_of_mem_take hu))), rfl, (by intro u hu; simp only [List.mem_cons, List.not_mem_nil, or_false] at hu; rcases hu with rfl | rfl | rfl <;> rfl), by omega⟩ ?_
      intro r1 r8 r10 r11 u1 v1 ownu1 bv21
      simp only [Act.put, List.setIfInBounds_toArray, List.set_cons_zero, List.set_cons_succ]
      obtain ⟨uA1, uc1, rfl⟩ := own_sl ownu1
      have e1u : i + 1 + (n - i) = (H.blks.take i ++ x :: H.blks.drop i).length := by have := HN.out; rw [List.length_append, List.length_take, List.length_cons, List.length_drop]; omega
      have hrow1 : v1.ownsRow wd.heap.size 51 3 (.slice uA1 (i + 1 + (n - i)) uc1) (H.blks.take i ++ x :: H.blks.drop i).length (flatK (H.blks.take i ++ x :: H.blks.drop i)) := by
        rw [← e1u, flatK_append, flatK_take, show flatK (x :: H.blks.drop i) = [.int .i64 (x.off : Int), .int .i64 (x.size : Int), .bool x.used] ++ flatK (H.blks.drop i) from rfl, flatK_drop]
        have e := ownu1
        rw [Nat.zero_mul, List.drop_zero, List.take_of_length_le (i := (n - i) * 3) (by have := K1.out.1; rw [List.length_drop]; omega)] at e
        exact e
      clear e1u
      have HM1 := Lib.hid (HH1.out.below bv21)
      have hm2' := HM1.out.bset _ _ (own_base hrow1 (Nat.zero_le _))
      have htc : Tch F w (v1.setCell ⟨p, 1, none⟩ (.slice uA1 (i + 1 + (n - i)) uc1)) := (Tch.of_below (S := F) (HBD.out.trans (bv21.mono HBD.out.size))).trans (Tch.set v1 ⟨p, 1, none⟩ _ HH.out.fp) (fun _ _ h => h)
      have HRES := Lib.hid (And.intro hm2' (And.intro htc (fun k hk => Nat.le_trans HBD.out.size (hrow1.lt k hk).1)))
      clear ownu1 hrow1 bv21 hm2' htc
      have q1 := HM1.out.c1
      have f1 := HM1.out.thaw 1
      have hp1 := HM1.out.lt
      refine plan_fin (l := ?la1f) (t := ?tl1f) ?hla1f ?htl1f ?_
      case hla1f => simp only [pick, List.getElem?_toArray, List.getElem?_cons_succ, List.getElem?_cons_zero]; rfl
      case htl1f => simp only [pick, List.getElem?_toArray, List.getElem?_cons_succ, List.getElem?_cons_zero]; rfl
      repeat (go_big_quiet_step (fail))
      refine wpQuiet_nil ?_
      go_wp2_with fail
      go_meet
      case rel => exact ⟨_, HRES.out⟩
    · have K1 := Lib.hid hob
      have hbd1 : b1 < wd.heap.size := own_lt K1.out rfl
      clear hob
      refine wp_region_plan wd.heap.size (.two [0, 2, 3, 4, 5, 6, 7, 9, 12, 13, 14, 15, 16, 17] 1 (.two [] 8 (.one [] 10 (.one [] 11 (.one [] 18 (.fin [19, 20])))) 10 (.one [] 8 (.one [] 11 (.one [] 18 (.fin [19, 20]))))) 10 (.one [] 1 (.one [] 8 (.one [] 11 (.one [] 18 (.fin [19, 20])))))) [21] (by kernel_rfl) (by kernel_rfl) (by kernel_rfl) (fun _ _ _ _ _ h => h) ?_
      rw [HWD1.out]
      have t1 : ∀ z : LaterB wd.heap.size wd, z.val.cell? ⟨p, 1, none⟩ = some (.slice (some ⟨b1, 0, none⟩) n c1) := fun z => (z.ext.cell (p := ⟨p, 1, none⟩) hpd1).trans EE1.out
      have t2 : ∀ z : LaterB wd.heap.size wd, z.val.cell? ⟨gx, 0, none⟩ = some (.int .i64 (x.off : Int)) := fun z => (z.ext.cell (p := ⟨gx, 0, none⟩) hgx).trans GX.out.1
      have t3 : ∀ z : LaterB wd.heap.size wd, z.val.cell? ⟨gx, 1, none⟩ = some (.int .i64 (x.size : Int)) := fun z => (z.ext.cell (p := ⟨gx, 1, none⟩) hgx).trans GX.out.2.1
      have t4 : ∀ z : LaterB wd.heap.size wd, z.val.cell? ⟨gx, 2, none⟩ = some (.bool x.used) := fun z => (z.ext.cell (p := ⟨gx, 2, none⟩) hgx).trans GX.out.2.2
      refine plan_two (l := ?seg1g) ?hseg1g ?_
      case hseg1g => simp only [pick, List.getElem?_toArray, List.getElem?_cons_succ, List.getElem?_cons_zero]; rfl
      repeat (go_big_quiet_step (fail))
      refine wpQuiet_nil ?_
      clear t1 t2 t3 t4
      refine mid_both (e := 51) (t := 28) (z := (.agg #[.int .i64 0, .int .i64 0, .bool false])) (size := 3) (bytes := 24) (d1 := 7) (d8 := 14) (d10 := 16) (d11 := 17) (d18 := 24) (s8 := 13) (s18 := 23) (s10 := 15) (A1 := (some ⟨b1, 0, none⟩)) (A2 := (some ⟨b1, i * 3, none⟩)) (m1 := i) (c1 := c1) (m2 := (n - i)) (c2 := (c1 - i)) (n1 := (((flatK H.blks).drop (0 * 3)).take (i * 3))) (n2 := (((flatK H.blks).drop (i * 3)).take ((n - i) * 3))) (cv := #[.int .i64 (x.off : Int), .int .i64 (x.size : Int), .bool x.used]) ⟨⟨rfl, rfl, fun _ => rfl⟩, ⟨rfl, rfl, fun _ => rfl⟩, ⟨rfl, rfl, fun _ => rfl⟩, ⟨rfl, rfl, fun _ => rfl⟩, ⟨rfl, rfl, fun _ => rfl⟩, fun b v => bslice_run rfl rfl (run_none_b v), fun b v hb => bslice_run rfl (by show [(0, b.eval (.tmp 15))] = _; rw [hb]; rfl) (run_one_b v (x.off : Int) (x.size : Int) x.used), rfl, rfl, rfl, Tryz.underlying28, bk_inf, rfl, by decide, by decide, by decide, ⟨Nat.lt_of_lt_of_eq (m := 47) (by decide) rfl, Nat.lt_of_lt_of_eq (m := 47) (by decide) rfl, Nat.lt_of_lt_of_eq (m := 47) (by decide) rfl, Nat.lt_of_lt_of_eq (m := 47) (by decide) rfl, Nat.lt_of_lt_of_eq (m := 47) (by decide) rfl⟩, rfl, rfl, (by have := K1.out.1; rw [List.length_take, List.length_drop]; omega), (by have := K1.out.1; rw [List.length_take, List.length_drop]; omega), ((own_part K1.out 0 i (by omega) ⟨b1, 0, none⟩ (.inr (by rw [Nat.zero_mul]))).cap (c' := c1)), ((own_part K1.out i (n - i) (by omega) ⟨b1, i * 3, none⟩ (.inr (by first | rfl | rw [Nat.mul_one]))).cap (c' := c1 - i)), (fun a e => (by cases e; exact hbd1)), (fun a e => (by cases e; exact hbd1)), (fun u hu => (flatK_one H.blks) u (List.mem_of_mem_drop (List.mem_of_mem_take hu))), (fun u hu => (flatK_one H.blks) u (List.mem_of_mem_drop (List.mem_of_mem_take hu))), rfl, (by intro u hu; simp only [List.mem_cons, List.not_mem_nil, or_false] at hu; rcases hu with rfl | rfl | rfl <;> rfl), by omega⟩ ?_
      intro r1 r8 r10 r11 u1 v1 ownu1 bv21
      simp only [Act.put, List.setIfInBounds_toArray, List.set_cons_zero, List.set_cons_succ]
      obtain ⟨uA1, uc1, rfl⟩ := own_sl ownu1
      have e1u : i + 1 + (n - i) = (H.blks.take i ++ x :: H.blks.drop i).length := by have := HN.out; rw [List.length_append, List.length_take, List.length_cons, List.length_drop]; omega
      have hrow1 : v1.ownsRow wd.heap.size 51 3 (.slice uA1 (i + 1 + (n - i)) uc1) (H.blks.take i ++ x :: H.blks.drop i).length (flatK (H.blks.take i ++ x :: H.blks.drop i)) := by
        rw [← e1u, flatK_append, flatK_take, show flatK (x :: H.blks.drop i) = [.int .i64 (x.off : Int), .int .i64 (x.size : Int), .bool x.used] ++ flatK (H.blks.drop i) from rfl, flatK_drop]
        have e := ownu1
        rw [Nat.zero_mul, List.drop_zero, List.take_of_length_le (i := (n - i) * 3) (by have := K1.out.1; rw [List.length_drop]; omega)] at e
        exact e
      clear e1u
      have HM1 := Lib.hid (HH1.out.below bv21)
      have hm2' := HM1.out.bset _ _ (own_base hrow1 (Nat.zero_le _))
      have htc : Tch F w (v1.setCell ⟨p, 1, none⟩ (.slice uA1 (i + 1 + (n - i)) uc1)) := (Tch.of_below (S := F) (HBD.out.trans (bv21.mono HBD.out.size))).trans (Tch.set v1 ⟨p, 1, none⟩ _ HH.out.fp) (fun _ _ h => h)
      have HRES := Lib.hid (And.intro hm2' (And.intro htc (fun k hk => Nat.le_trans HBD.out.size (hrow1.lt k hk).1)))
      clear ownu1 hrow1 bv21 hm2' htc
      have q1 := HM1.out.c1
      have f1 := HM1.out.thaw 1
      have hp1 := HM1.out.lt
      refine plan_fin (l := ?la1g) (t := ?tl1g) ?hla1g ?htl1g ?_
      case hla1g => simp only [pick, List.getElem?_toArray, List.getElem?_cons_succ, List.getElem?_cons_zero]; rfl
      case htl1g => simp only [pick, List.getElem?_toArray, List.getElem?_cons_succ, List.getElem?_cons_zero]; rfl
      repeat (go_big_quiet_step (fail))
      refine wpQuiet_nil ?_
      go_wp2_with fail
      go_meet
      case rel => exact ⟨_, HRES.out⟩
  case rest =>
    obtain ⟨V1, hm1, htc, hl1⟩ := hcut
    clear HOB EE1 hpd1 GX hgx HGX HWD1 HH1
    obtain ⟨we, hwe⟩ : ∃ we, wc.drew = we := ⟨_, rfl⟩
    have hbe : Below wc.heap.size wc we := by rw [← hwe]; exact (Below.refl _ _).drew
    have HME := Lib.hid (hm1.below hbe)
    have HTC := Lib.hid (htc.trans (Tch.of_below (S := F) hbe) (fun _ _ h => h))
    have HL1 := Lib.hid hl1
    have HWD2 := Lib.hid hwe
    have EE2 := Lib.hid HME.out.c2
    have hpd2 := HME.out.lt
    have hod : we.ownsRow 0 23 1 Vd n (H.ds.map Prod.fst) := by have e := HME.out.od; dsimp only at e; rw [HDL.out] at e; exact e
    clear hm1 htc hl1 hwe hbe
    rcases own_way hod i hi with ⟨rfl, hz2, _⟩ | ⟨b2, rfl, _, hf2, _⟩ | ⟨b2, c2, rfl, _, hc2, hd2, _⟩
    · go_wp2_with fail
      have HN0 := Lib.hid hz2
      clear hz2 hod
      refine wp_region_plan we.heap.size (.two [0, 2, 3, 4, 5, 6, 7, 11, 12, 13, 14, 15, 16] 1 (.two [] 8 (.one [] 9 (.one [] 10 (.one [] 17 (.fin [18, 19])))) 9 (.one [] 8 (.one [] 10 (.one [] 17 (.fin [18, 19]))))) 9 (.one [] 1 (.one [] 8 (.one [] 10 (.one [] 17 (.fin [18, 19])))))) [20] (by kernel_rfl) (by kernel_rfl) (by kernel_rfl) (fun _ _ _ _ _ h => h) ?_
      rw [HWD2.out]
      have t1 : ∀ z : LaterB we.heap.size we, z.val.cell? ⟨p, 2, none⟩ = some (.slice none 0 0) := fun z => (z.ext.cell (p := ⟨p, 2, none⟩) hpd2).trans EE2.out
      have hi0v : i ≤ 0 := by have := HN0.out; omega
      refine plan_two (l := ?seg2n) ?hseg2n ?_
      case hseg2n => simp only [pick, List.getElem?_toArray, List.getElem?_cons_succ, List.getElem?_cons_zero]; rfl
      repeat (go_big_quiet_step (fail))
      refine wpQuiet_nil ?_
      clear t1 hi0v
      refine mid_both (e := 23) (t := 29) (z := (.slice none 0 0)) (size := 1) (bytes := 24) (d1 := 28) (d8 := 35) (d10 := 36) (d11 := 37) (d18 := 44) (s8 := 34) (s18 := 43) (s10 := 0) (A1 := none) (A2 := none) (m1 := 0) (c1 := 0) (m2 := 0) (c2 := 0) (n1 := []) (n2 := []) (cv := #[.slice none 0 0]) ⟨⟨rfl, rfl, fun _ => rfl⟩, ⟨rfl, rfl, fun _ => rfl⟩, ⟨rfl, rfl, fun _ => rfl⟩, ⟨rfl, rfl, fun _ => rfl⟩, ⟨rfl, rfl, fun _ => rfl⟩, fun b v => bslice_run rfl rfl (run_none_s v), fun b v hb => bslice_run rfl rfl (run_one_s v), rfl, rfl, rfl, Tryz.underlying29, sls_inf, rfl, by decide, by decide, by decide, ⟨Nat.lt_of_lt_of_eq (m := 47) (by decide) rfl, Nat.lt_of_lt_of_eq (m := 47) (by decide) rfl, Nat.lt_of_lt_of_eq (m := 47) (by decide) rfl, Nat.lt_of_lt_of_eq (m := 47) (by decide) rfl, Nat.lt_of_lt_of_eq (m := 47) (by decide) rfl⟩, rfl, rfl, rfl, rfl, (src_nil _ _ rfl), (src_nil _ _ rfl), (fun a e => (by cases e)), (fun a e => (by cases e)), (fun u hu => (by cases hu)), (fun u hu => (by cases hu)), rfl, (by intro u hu; simp only [List.mem_cons, List.not_mem_nil, or_false] at hu; subst hu; rfl), by omega⟩ ?_
      intro r1 r8 r10 r11 u2 v2 ownu2 bv22
      simp only [Act.put, List.setIfInBounds_toArray, List.set_cons_zero, List.set_cons_succ]
      simp only [Nat.add_zero, Nat.zero_add] at ownu2
      obtain ⟨uA2, uc2, rfl⟩ := own_sl ownu2
      have hrow2 : v2.ownsRow we.heap.size 23 1 (.slice uA2 1 uc2) (H.ds.take i ++ nilD :: H.ds.drop i).length ((H.ds.take i ++ nilD :: H.ds.drop i).map Prod.fst) := by
        have hnil : H.ds = [] := List.eq_nil_of_length_eq_zero (by have := HDL.out; have := HN0.out; omega)
        have e := ownu2
        have hi0 : i = 0 := by have := HN0.out; omega
        subst hi0
        rw [hnil]
        exact e
      have HM2 := Lib.hid (HME.out.below bv22)
      have hm3 := HM2.out.dset _ _ (own_base hrow2 (Nat.zero_le _)) (fun d hd => by
        rcases List.mem_append.1 hd with h | h
        · exact HH.out.sl d (List.mem_of_mem_take h)
        · rcases List.mem_cons.1 h with rfl | h
          · exact ⟨_, _, _, rfl⟩
          · exact HH.out.sl d (List.mem_of_mem_drop h))
      have hto : HT F w p (H.put i x) (v2.setCell ⟨p, 2, none⟩ (.slice uA2 (1) uc2)) := by
        refine ⟨_, ⟨_, _, _, _, hm3⟩, ?_, fun k hk => ?_⟩
        · exact (HTC.out.trans (Tch.of_below (S := F) bv22) (fun _ _ h => h)).trans (Tch.set v2 ⟨p, 2, none⟩ _ HH.out.fp) (fun _ _ h => h)
        · rcases hk with (hk | hk) | hk
          · exact .inl hk
          · exact .inr (HL1.out k hk)
          · exact .inr (by have := (hrow2.lt k hk).1; have := HTC.out.size; omega)
      have HTO := Lib.hid hto
      clear ownu2 hrow2 hm3 hto bv22
      have q2 := HM2.out.c2
      have f2 := HM2.out.thaw 2
      have hp2 := HM2.out.lt
      refine plan_fin (l := ?la2n) (t := ?tl2n) ?hla2n ?htl2n ?_
      case hla2n => simp only [pick, List.getElem?_toArray, List.getElem?_cons_succ, List.getElem?_cons_zero]; rfl
      case htl2n => simp only [pick, List.getElem?_toArray, List.getElem?_cons_succ, List.getElem?_cons_zero]; rfl
      repeat (go_big_quiet_step (fail))
      refine wpQuiet_nil ?_
      go_wp2
      go_end0
      exact ⟨rfl, HTO.out⟩
    · go_wp2_with fail
      have HNI := Lib.hid hf2
      clear hf2
      have K2 := Lib.hid hod
      have hbd2 : b2 < we.heap.size := own_lt K2.out rfl
      clear hod
      refine wp_region_plan we.heap.size (.two [0, 2, 3, 4, 5, 6, 7, 11, 12, 13, 14, 15, 16] 1 (.two [] 8 (.one [] 9 (.one [] 10 (.one [] 17 (.fin [18, 19])))) 9 (.one [] 8 (.one [] 10 (.one [] 17 (.fin [18, 19]))))) 9 (.one [] 1 (.one [] 8 (.one [] 10 (.one [] 17 (.fin [18, 19])))))) [20] (by kernel_rfl) (by kernel_rfl) (by kernel_rfl) (fun _ _ _ _ _ h => h) ?_
      rw [HWD2.out]
      have t1 : ∀ z : LaterB we.heap.size we, z.val.cell? ⟨p, 2, none⟩ = some (.slice (some ⟨b2, 0, none⟩) n i) := fun z => (z.ext.cell (p := ⟨p, 2, none⟩) hpd2).trans EE2.out
      refine plan_two (l := ?seg2f) ?hseg2f ?_
      case hseg2f => simp only [pick, List.getElem?_toArray, List.getElem?_cons_succ, List.getElem?_cons_zero]; rfl
      repeat (go_big_quiet_step (fail))
      refine wpQuiet_nil ?_
      clear t1
      refine mid_both (e := 23) (t := 29) (z := (.slice none 0 0)) (size := 1) (bytes := 24) (d1 := 28) (d8 := 35) (d10 := 36) (d11 := 37) (d18 := 44) (s8 := 34) (s18 := 43) (s10 := 0) (A1 := (some ⟨b2, 0, none⟩)) (A2 := (some ⟨b2, 0, none⟩)) (m1 := i) (c1 := i) (m2 := (n - i)) (c2 := 0) (n1 := (((H.ds.map Prod.fst).drop (0 * 1)).take (i * 1))) (n2 := (((H.ds.map Prod.fst).drop (i * 1)).take ((n - i) * 1))) (cv := #[.slice none 0 0]) ⟨⟨rfl, rfl, fun _ => rfl⟩, ⟨rfl, rfl, fun _ => rfl⟩, ⟨rfl, rfl, fun _ => rfl⟩, ⟨rfl, rfl, fun _ => rfl⟩, ⟨rfl, rfl, fun _ => rfl⟩, fun b v => bslice_run rfl rfl (run_none_s v), fun b v hb => bslice_run rfl rfl (run_one_s v), rfl, rfl, rfl, Tryz.underlying29, sls_inf, rfl, by decide, by decide, by decide, ⟨Nat.lt_of_lt_of_eq (m := 47) (by decide) rfl, Nat.lt_of_lt_of_eq (m := 47) (by decide) rfl, Nat.lt_of_lt_of_eq (m := 47) (by decide) rfl, Nat.lt_of_lt_of_eq (m := 47) (by decide) rfl, Nat.lt_of_lt_of_eq (m := 47) (by decide) rfl⟩, rfl, rfl, (by have := K2.out.1; rw [List.length_take, List.length_drop]; omega), (by have := K2.out.1; rw [List.length_take, List.length_drop]; omega), ((own_part K2.out 0 i (by omega) ⟨b2, 0, none⟩ (.inr (by rw [Nat.zero_mul]))).cap (c' := i)), ((own_part K2.out i (n - i) (by omega) ⟨b2, 0, none⟩ (.inl (by have := HNI.out; omega))).cap (c' := 0)), (fun a e => (by cases e; exact hbd2)), (fun a e => (by cases e; exact hbd2)), (fun u hu => (sl_one HH.out.sl) u (List.mem_of_mem_drop (List.mem_of_mem_take hu))), (fun u hu => (sl_one HH.out.sl) u (List.mem_of_mem_drop (List.mem_of_mem_take hu))), rfl, (by intro u hu; simp only [List.mem_cons, List.not_mem_nil, or_false] at hu; subst hu; rfl), by omega⟩ ?_
      intro r1 r8 r10 r11 u2 v2 ownu2 bv22
      simp only [Act.put, List.setIfInBounds_toArray, List.set_cons_zero, List.set_cons_succ]
      obtain ⟨uA2, uc2, rfl⟩ := own_sl ownu2
      have e2u : i + 1 + (n - i) = (H.ds.take i ++ nilD :: H.ds.drop i).length := by have := HDL.out; rw [List.length_append, List.length_take, List.length_cons, List.length_drop]; omega
      have hrow2 : v2.ownsRow we.heap.size 23 1 (.slice uA2 (i + 1 + (n - i)) uc2) (H.ds.take i ++ nilD :: H.ds.drop i).length ((H.ds.take i ++ nilD :: H.ds.drop i).map Prod.fst) := by
        rw [← e2u, List.map_append, List.map_take, List.map_cons, List.map_drop]
        have e := ownu2
        rw [Nat.zero_mul, List.drop_zero, Nat.mul_one, Nat.mul_one, List.take_of_length_le (i := n - i) (by have := K2.out.1; rw [List.length_drop]; omega)] at e
        exact e
      clear e2u
      have HM2 := Lib.hid (HME.out.below bv22)
      have hm3 := HM2.out.dset _ _ (own_base hrow2 (Nat.zero_le _)) (fun d hd => by
        rcases List.mem_append.1 hd with h | h
        · exact HH.out.sl d (List.mem_of_mem_take h)
        · rcases List.mem_cons.1 h with rfl | h
          · exact ⟨_, _, _, rfl⟩
          · exact HH.out.sl d (List.mem_of_mem_drop h))
      have hto : HT F w p (H.put i x) (v2.setCell ⟨p, 2, none⟩ (.slice uA2 (i + 1 + (n - i)) uc2)) := by
        refine ⟨_, ⟨_, _, _, _, hm3⟩, ?_, fun k hk => ?_⟩
        · exact (HTC.out.trans (Tch.of_below (S := F) bv22) (fun _ _ h => h)).trans (Tch.set v2 ⟨p, 2, none⟩ _ HH.out.fp) (fun _ _ h => h)
        · rcases hk with (hk | hk) | hk
          · exact .inl hk
          · exact .inr (HL1.out k hk)
          · exact .inr (by have := (hrow2.lt k hk).1; have := HTC.out.size; omega)
      have HTO := Lib.hid hto
      clear ownu2 hrow2 hm3 hto bv22
      have q2 := HM2.out.c2
      have f2 := HM2.out.thaw 2
      have hp2 := HM2.out.lt
      refine plan_fin (l := ?la2f) (t := ?tl2f) ?hla2f ?htl2f ?_
      case hla2f => simp only [pick, List.getElem?_toArray, List.getElem?_cons_succ, List.getElem?_cons_zero]; rfl
      case htl2f => simp only [pick, List.getElem?_toArray, List.getElem?_cons_succ, List.getElem?_cons_zero]; rfl
      repeat (go_big_quiet_step (fail))
      refine wpQuiet_nil ?_
      go_wp2
      go_end0
      exact ⟨rfl, HTO.out⟩
    · go_wp2_with fail
      have K2 := Lib.hid hod
      have hbd2 : b2 < we.heap.size := own_lt K2.out rfl
      clear hod
      refine wp_region_plan we.heap.size (.two [0, 2, 3, 4, 5, 6, 7, 11, 12, 13, 14, 15, 16] 1 (.two [] 8 (.one [] 9 (.one [] 10 (.one [] 17 (.fin [18, 19])))) 9 (.one [] 8 (.one [] 10 (.one [] 17 (.fin [18, 19]))))) 9 (.one [] 1 (.one [] 8 (.one [] 10 (.one [] 17 (.fin [18, 19])))))) [20] (by kernel_rfl) (by kernel_rfl) (by kernel_rfl) (fun _ _ _ _ _ h => h) ?_
      rw [HWD2.out]
      have t1 : ∀ z : LaterB we.heap.size we, z.val.cell? ⟨p, 2, none⟩ = some (.slice (some ⟨b2, 0, none⟩) n c2) := fun z => (z.ext.cell (p := ⟨p, 2, none⟩) hpd2).trans EE2.out
      refine plan_two (l := ?seg2g) ?hseg2g ?_
      case hseg2g => simp only [pick, List.getElem?_toArray, List.getElem?_cons_succ, List.getElem?_cons_zero]; rfl
      repeat (go_big_quiet_step (fail))
      refine wpQuiet_nil ?_
      clear t1
      refine mid_both (e := 23) (t := 29) (z := (.slice none 0 0)) (size := 1) (bytes := 24) (d1 := 28) (d8 := 35) (d10 := 36) (d11 := 37) (d18 := 44) (s8 := 34) (s18 := 43) (s10 := 0) (A1 := (some ⟨b2, 0, none⟩)) (A2 := (some ⟨b2, i, none⟩)) (m1 := i) (c1 := c2) (m2 := (n - i)) (c2 := (c2 - i)) (n1 := (((H.ds.map Prod.fst).drop (0 * 1)).take (i * 1))) (n2 := (((H.ds.map Prod.fst).drop (i * 1)).take ((n - i) * 1))) (cv := #[.slice none 0 0]) ⟨⟨rfl, rfl, fun _ => rfl⟩, ⟨rfl, rfl, fun _ => rfl⟩, ⟨rfl, rfl, fun _ => rfl⟩, ⟨rfl, rfl, fun _ => rfl⟩, ⟨rfl, rfl, fun _ => rfl⟩, fun b v => bslice_run rfl rfl (run_none_s v), fun b v hb => bslice_run rfl rfl (run_one_s v), rfl, rfl, rfl, Tryz.underlying29, sls_inf, rfl, by decide, by decide, by decide, ⟨Nat.lt_of_lt_of_eq (m := 47) (by decide) rfl, Nat.lt_of_lt_of_eq (m := 47) (by decide) rfl, Nat.lt_of_lt_of_eq (m := 47) (by decide) rfl, Nat.lt_of_lt_of_eq (m := 47) (by decide) rfl, Nat.lt_of_lt_of_eq (m := 47) (by decide) rfl⟩, rfl, rfl, (by have := K2.out.1; rw [List.length_take, List.length_drop]; omega), (by have := K2.out.1; rw [List.length_take, List.length_drop]; omega), ((own_part K2.out 0 i (by omega) ⟨b2, 0, none⟩ (.inr (by rw [Nat.zero_mul]))).cap (c' := c2)), ((own_part K2.out i (n - i) (by omega) ⟨b2, i, none⟩ (.inr (by first | rfl | rw [Nat.mul_one]))).cap (c' := c2 - i)), (fun a e => (by cases e; exact hbd2)), (fun a e => (by cases e; exact hbd2)), (fun u hu => (sl_one HH.out.sl) u (List.mem_of_mem_drop (List.mem_of_mem_take hu))), (fun u hu => (sl_one HH.out.sl) u (List.mem_of_mem_drop (List.mem_of_mem_take hu))), rfl, (by intro u hu; simp only [List.mem_cons, List.not_mem_nil, or_false] at hu; subst hu; rfl), by omega⟩ ?_
      intro r1 r8 r10 r11 u2 v2 ownu2 bv22
      simp only [Act.put, List.setIfInBounds_toArray, List.set_cons_zero, List.set_cons_succ]
      obtain ⟨uA2, uc2, rfl⟩ := own_sl ownu2
      have e2u : i + 1 + (n - i) = (H.ds.take i ++ nilD :: H.ds.drop i).length := by have := HDL.out; rw [List.length_append, List.length_take, List.length_cons, List.length_drop]; omega
      have hrow2 : v2.ownsRow we.heap.size 23 1 (.slice uA2 (i + 1 + (n - i)) uc2) (H.ds.take i ++ nilD :: H.ds.drop i).length ((H.ds.take i ++ nilD :: H.ds.drop i).map Prod.fst) := by
        rw [← e2u, List.map_append, List.map_take, List.map_cons, List.map_drop]
        have e := ownu2
        rw [Nat.zero_mul, List.drop_zero, Nat.mul_one, Nat.mul_one, List.take_of_length_le (i := n - i) (by have := K2.out.1; rw [List.length_drop]; omega)] at e
        exact e
      clear e2u
      have HM2 := Lib.hid (HME.out.below bv22)
      have hm3 := HM2.out.dset _ _ (own_base hrow2 (Nat.zero_le _)) (fun d hd => by
        rcases List.mem_append.1 hd with h | h
        · exact HH.out.sl d (List.mem_of_mem_take h)
        · rcases List.mem_cons.1 h with rfl | h
          · exact ⟨_, _, _, rfl⟩
          · exact HH.out.sl d (List.mem_of_mem_drop h))
      have hto : HT F w p (H.put i x) (v2.setCell ⟨p, 2, none⟩ (.slice uA2 (i + 1 + (n - i)) uc2)) := by
        refine ⟨_, ⟨_, _, _, _, hm3⟩, ?_, fun k hk => ?_⟩
        · exact (HTC.out.trans (Tch.of_below (S := F) bv22) (fun _ _ h => h)).trans (Tch.set v2 ⟨p, 2, none⟩ _ HH.out.fp) (fun _ _ h => h)
        · rcases hk with (hk | hk) | hk
          · exact .inl hk
          · exact .inr (HL1.out k hk)
          · exact .inr (by have := (hrow2.lt k hk).1; have := HTC.out.size; omega)
      have HTO := Lib.hid hto
      clear ownu2 hrow2 hm3 hto bv22
      have q2 := HM2.out.c2
      have f2 := HM2.out.thaw 2
      have hp2 := HM2.out.lt
      refine plan_fin (l := ?la2g) (t := ?tl2g) ?hla2g ?htl2g ?_
      case hla2g => simp only [pick, List.getElem?_toArray, List.getElem?_cons_succ, List.getElem?_cons_zero]; rfl
      case htl2g => simp only [pick, List.getElem?_toArray, List.getElem?_cons_succ, List.getElem?_cons_zero]; rfl
      repeat (go_big_quiet_step (fail))
      refine wpQuiet_nil ?_
      go_wp2
      go_end0
      exact ⟨rfl, HTO.out⟩
end
end Go.Proofs.YtbemaoncakcnjaaGreat

/- The contract of the document's heap: put in all its ways; single cells of its rows; steps one behind the other. -/
namespace Go.Proofs.YtbemaoncakcnjaaGreat
open Go.RowKit

theorem flatK_set : ∀ (l : List Bk) (i : Nat) (x : Bk), l[i]? = some x → ∀ (s : Nat) (u : Bool), flatK (l.set i { x with size := s }) = (flatK l).set (i * 3 + 1) (.int .i64 (s : Int)) ∧ flatK (l.set i { x with used := u }) = (flatK l).set (i * 3 + 2) (.bool u)
  | [], i, x, h, s, u => by simp at h
  | y :: r, 0, x, h, s, u => by
    simp at h
    subst h
    exact ⟨rfl, rfl⟩
  | y :: r, i + 1, x, h, s, u => by
    have ih := flatK_set r i x (by simpa using h) s u
    constructor
    · rw [List.set_cons_succ, show (i + 1) * 3 + 1 = i * 3 + 1 + 1 + 1 + 1 by omega]
      simp only [flatK, List.set_cons_succ, ih.1]
    · rw [List.set_cons_succ, show (i + 1) * 3 + 2 = i * 3 + 2 + 1 + 1 + 1 by omega]
      simp only [flatK, List.set_cons_succ, ih.2]

section
variable {F : Nat → Prop} {w w' : World} {p gl : Nat} {H : Hp} {Vb Vd : Value} {cs : List Value}
theorem own_setCell {base n size b c : Nat} {t : TypeId} {xs : List Value} (h : w.ownsRow base t size (.slice (some ⟨b, 0, none⟩) n c) n xs) (j : Nat) (u : Value) : (w.setCell ⟨b, j, none⟩ u).ownsRow base t size (.slice (some ⟨b, 0, none⟩) n c) n (xs.set j u) := by
  refine ⟨by rw [List.length_set]; exact h.1, .inr ?_⟩
  rcases h.2 with ⟨h0, _⟩ | ⟨b', c', cur, hv, hb, hh, h1, h2, h3, h4⟩
  · cases h0
  · injection hv with e1 _ e3
    injection e1 with e1
    injection e1 with e1
    subst e1 e3
    refine ⟨b, c, cur.setIfInBounds j u, rfl, hb, heap_setCell_same w b j _ _ u hh, h1, h2, by rw [Array.size_setIfInBounds]; exact h3, ?_⟩
    rw [Array.toList_setIfInBounds, List.take_set, h4]
/-- A cell of the blocks' row is another. -/
theorem Hm.bcell (h : Hm F w p H Vb Vd gl cs) {b c : Nat} (hV : Vb = .slice (some ⟨b, 0, none⟩) H.blks.length c) (j : Nat) (u : Value) (l : List Bk) (hl : l.length = H.blks.length) (hf : flatK l = (flatK H.blks).set j u) :
    Hm F (w.setCell ⟨b, j, none⟩ u) p { H with blks := l } Vb Vd gl cs := by
  subst hV
  obtain ⟨cur, hcur⟩ : ∃ cur, w.heap[b]? = some (.cells cur 51 (0, 0)) := by
    rcases h.ob.2 with ⟨h0, _⟩ | ⟨b', c', cur, hv, _, hh, _⟩
    · cases h0
    · injection hv with e1
      injection e1 with e1
      injection e1 with e1
      subst e1
      exact ⟨cur, hh⟩
  have hk : ∀ k, k ≠ b → (w.setCell ⟨b, j, none⟩ u).heap[k]? = w.heap[k]? := fun k hk => Below.heap_setCell w ⟨b, j, none⟩ u k hk
  have hpb : p ≠ b := fun e => by
    have h1 := h.obj
    rw [e, hcur] at h1
    injection h1 with h1
    injection h1 with _ h1 _
    exact absurd h1 (by decide)
  have hgb : gl ≠ b := fun e => by
    have h1 := h.row
    rw [e, hcur] at h1
    injection h1 with h1
    injection h1 with _ h1 _
    exact absurd h1 (by decide)
  refine ⟨(hk p hpb).trans h.obj, ?_, own_keep h.od (fun k e => hk k (own_two h.od hcur (by decide) k e)), (hk gl hgb).trans h.row, h.len, fun d hd => ?_, h.fp, h.fl, h.fb, h.fd, h.fi, h.sl⟩
  · dsimp only
    rw [hl, hf]
    exact own_setCell h.ob j u
  · obtain ⟨v, h1, h2⟩ := h.at_ d hd
    exact ⟨v, h1, own_keep h2 (fun k e => hk k (own_two h2 hcur (by decide) k e))⟩
theorem Hm.useM (h : Hm F w p H Vb Vd gl cs) {b c i : Nat} (hV : Vb = .slice (some ⟨b, 0, none⟩) H.blks.length c) (hi : i < H.blks.length) (u : Bool) : Hm F (w.setCell ⟨b, i * 3 + 2, none⟩ (.bool u)) p (H.use i u) Vb Vd gl cs :=
  h.bcell hV _ _ _ (List.length_set ..) ((flatK_set H.blks i _ (bkAt_get hi) 0 u).2)
theorem Hm.sizeM (h : Hm F w p H Vb Vd gl cs) {b c i : Nat} (hV : Vb = .slice (some ⟨b, 0, none⟩) H.blks.length c) (hi : i < H.blks.length) (s : Nat) : Hm F (w.setCell ⟨b, i * 3 + 1, none⟩ (.int .i64 (s : Int))) p (H.size i s) Vb Vd gl cs :=
  h.bcell hV _ _ _ (List.length_set ..) ((flatK_set H.blks i _ (bkAt_get hi) s false).1)
/-- A slice of bytes is another. -/
theorem Hm.dcell (h : Hm F w p H Vb Vd gl cs) {b c i : Nat} (hV : Vd = .slice (some ⟨b, 0, none⟩) H.ds.length c) (x : Dt) (hx : ∃ A n c, x.1 = Value.slice A n c) : Hm F (w.setCell ⟨b, i, none⟩ x.1) p { H with ds := H.ds.set i x } Vb Vd gl cs := by
  subst hV
  obtain ⟨cur, hcur⟩ : ∃ cur, w.heap[b]? = some (.cells cur 23 (0, 0)) := by
    rcases h.od.2 with ⟨h0, _⟩ | ⟨b', c', cur, hv, _, hh, _⟩
    · cases h0
    · injection hv with e1
      injection e1 with e1
      injection e1 with e1
      subst e1
      exact ⟨cur, hh⟩
  have hk : ∀ k, k ≠ b → (w.setCell ⟨b, i, none⟩ x.1).heap[k]? = w.heap[k]? := fun k hk => Below.heap_setCell w ⟨b, i, none⟩ x.1 k hk
  have hpb : p ≠ b := fun e => by
    have h1 := h.obj
    rw [e, hcur] at h1
    injection h1 with h1
    injection h1 with _ h1 _
    exact absurd h1 (by decide)
  have hgb : gl ≠ b := fun e => by
    have h1 := h.row
    rw [e, hcur] at h1
    injection h1 with h1
    injection h1 with _ h1 _
    exact absurd h1 (by decide)
  refine ⟨(hk p hpb).trans h.obj, own_keep h.ob (fun k e => hk k (own_two h.ob hcur (by decide) k e)), ?_, (hk gl hgb).trans h.row, h.len, fun d hd => ?_, h.fp, h.fl, h.fb, h.fd, h.fi, fun d hd => ?_⟩
  · dsimp only
    rw [List.length_set, List.map_set]
    exact own_setCell h.od i _
  · obtain ⟨v, h1, h2⟩ := h.at_ d hd
    exact ⟨v, h1, own_keep h2 (fun k e => hk k (own_two h2 hcur (by decide) k e))⟩
  · rcases List.mem_or_eq_of_mem_set hd with h' | h'
    · exact h.sl d h'
    · rw [h']; exact hx
theorem Hm.wipeM (h : Hm F w p H Vb Vd gl cs) {b c i : Nat} (hV : Vd = .slice (some ⟨b, 0, none⟩) H.ds.length c) : Hm F (w.setCell ⟨b, i, none⟩ (.slice none 0 0)) p (H.wipe i) Vb Vd gl cs := h.dcell hV nilD ⟨_, _, _, rfl⟩
theorem own_at {n b c : Nat} {l : List Bk} (h : w.ownsRow 0 51 3 (.slice (some ⟨b, 0, none⟩) n c) n (flatK l)) {i : Nat} {x : Bk} (hx : l[i]? = some x) : (w.cell? ⟨b, i * 3, none⟩ = some (.int .i64 (x.off : Int)) ∧ w.cell? ⟨b, i * 3 + 1, none⟩ = some (.int .i64 (x.size : Int)) ∧ w.cell? ⟨b, i * 3 + 2, none⟩ = some (.bool x.used)) ∧ ∀ j, w.frozen? ⟨b, j, none⟩ = false := by
  obtain ⟨b', c', hv, _, _, _, h1, h2⟩ := own_blk h hx
  injection hv with e1 _ e3
  injection e1 with e1
  injection e1 with e1
  subst e1 e3
  exact ⟨h1, h2⟩

/-- Where a walk over a heap stands: begun at w with H in F, now at w'. -/
structure Hz (F : Nat → Prop) (w : World) (p : Nat) (F' : Nat → Prop) (w' : World) (H' : Hp) (Vb Vd : Value) (gl : Nat) (cs : List Value) : Prop where
  hm : Hm F' w' p H' Vb Vd gl cs
  tc : Tch F w w'
  sub : ∀ k, F' k → F k ∨ w.heap.size ≤ k
section
variable {F' F2 : Nat → Prop} {w2 : World} {H' H2 : Hp} {Vb2 Vd2 : Value} {gl2 : Nat} {cs2 : List Value}
theorem Hz.start (h : Hm F w p H Vb Vd gl cs) : Hz F w p F w H Vb Vd gl cs := ⟨h, Tch.refl _ _, fun _ h => .inl h⟩
theorem Hz.step (h : Hz F w p F' w' H' Vb Vd gl cs) (t : HT F' w' p H2 w2) : ∃ F2 Vb2 Vd2 gl2 cs2, Hz F w p F2 w2 H2 Vb2 Vd2 gl2 cs2 := by
  obtain ⟨F2, ⟨Vb2, Vd2, gl2, cs2, h2⟩, t2, f2⟩ := t
  refine ⟨F2, Vb2, Vd2, gl2, cs2, h2, h.tc.trans t2 (fun i hi h1 => ?_), fun j hj => ?_⟩
  · rcases h.sub i h1 with h | h
    · exact h
    · omega
  · rcases f2 j hj with h' | h'
    · exact h.sub j h'
    · exact .inr (Nat.le_trans h.tc.size h')
theorem Hz.set (h : Hz F w p F' w' H' Vb Vd gl cs) {a : Addr} {u : Value} (ha : F' a.block) (h2 : Hm F' (w'.setCell a u) p H2 Vb2 Vd2 gl2 cs2) : Hz F w p F' (w'.setCell a u) H2 Vb2 Vd2 gl2 cs2 := by
  refine ⟨h2, h.tc.trans (Tch.set (S := F') w' a u ha) (fun i hi h1 => ?_), h.sub⟩
  rcases h.sub i h1 with h | h
  · exact h
  · omega
theorem Hz.below (h : Hz F w p F' w' H' Vb Vd gl cs) (hb : Below w'.heap.size w' w2) : Hz F w p F' w2 H' Vb Vd gl cs :=
  ⟨h.hm.below hb, h.tc.trans (Tch.of_below (S := F) hb) (fun _ _ h => h), h.sub⟩
theorem Hz.fin (h : Hz F w p F' w' H' Vb Vd gl cs) : HT F w p H' w' := ⟨F', ⟨_, _, _, _, h.hm⟩, h.tc, h.sub⟩
theorem Hz.last (h : Hz F w p F' w' H' Vb Vd gl cs) (t : HT F' w' p H2 w2) : HT F w p H2 w2 := by
  obtain ⟨_, _, _, _, _, h2⟩ := h.step t
  exact h2.fin
end

theorem hput_any (h : Hm F w p H Vb Vd gl cs) (i : Nat) (hi : i ≤ H.blks.length) (hn : H.blks.length ≤ 100000) (hdl : H.ds.length = H.blks.length) (x : Bk) :
    Calls Tryz.prog 76 #[.pointer (some ⟨p, 0, none⟩), .int .i64 (i : Int), .agg #[.int .i64 (x.off : Int), .int .i64 (x.size : Int), .bool x.used]] w fun e w' => e = .returned (.tuple #[]) ∧ HT F w p (H.put i x) w' := by
  exact hput_all H.blks.length i h rfl hi hn hdl x
end
end Go.Proofs.YtbemaoncakcnjaaGreat

/- The contract of the document's heap: give. -/
namespace Go.Proofs.YtbemaoncakcnjaaGreat
open Go.RowKit

theorem give_stay {H : Hp} {i : Nat} (h : nextF ((H.use i false).wipe i).blks i = false) : H.give i = ((H.use i false).wipe i).giveC i := by
  unfold Hp.give Hp.giveB
  rw [h, if_neg (by decide)]
theorem give_join {H : Hp} {i : Nat} (h : nextF ((H.use i false).wipe i).blks i = true) : H.give i = ((((H.use i false).wipe i).out (i + 1)).join i).giveC i := by
  unfold Hp.give Hp.giveB
  rw [if_pos h]
theorem giveC_stay {H : Hp} {i : Nat} (h : prevF H.blks i = false) : H.giveC i = H.in_ i := by
  unfold Hp.giveC
  rw [h, if_neg (by decide)]
theorem giveC_join {H : Hp} {i : Nat} (h : prevF H.blks i = true) : H.giveC i = ((H.out (i - 1)).join (i - 1)).in_ (i - 1) := by
  unfold Hp.giveC
  rw [if_pos h]
theorem own_thaw {w : World} {base n m size b c : Nat} {t : TypeId} {xs : List Value} (h : w.ownsRow base t size (.slice (some ⟨b, 0, none⟩) m c) n xs) (j : Nat) : w.frozen? ⟨b, j, none⟩ = false := by
  rcases h.2 with ⟨h0, _⟩ | ⟨b', c', cur, hv, _, hh, _⟩
  · cases h0
  · injection hv with e1
    injection e1 with e1
    injection e1 with e1
    subst e1
    exact frozen_of_row w b j _ _ hh
section
variable {F : Nat → Prop} {w w' : World} {p gl : Nat} {H : Hp} {Vb Vd : Value} {cs : List Value}
theorem own_cell1 {w : World} {base n b c : Nat} {t : TypeId} {xs : List Value} (h : w.ownsRow base t 1 (.slice (some ⟨b, 0, none⟩) n c) n xs) {j : Nat} (hj : j < n) : ∃ v, w.cell? ⟨b, j, none⟩ = some v ∧ xs[j]? = some v := by
  have hl := h.1
  rw [Nat.mul_one] at hl
  exact ⟨xs[j]'(by omega), by rw [h.cellAt j (by omega)]; exact List.getElem?_eq_getElem _, List.getElem?_eq_getElem _⟩
/-- The cells of a block, where the row's length is named. -/
theorem Hm.at_n {n b c : Nat} (h : Hm F w p H (.slice (some ⟨b, 0, none⟩) n c) Vd gl cs) (hn : H.blks.length = n) {i : Nat} (hi : i < n) : w.cell? ⟨b, i * 3, none⟩ = some (.int .i64 ((bkAt H.blks i).off : Int)) ∧ w.cell? ⟨b, i * 3 + 1, none⟩ = some (.int .i64 ((bkAt H.blks i).size : Int)) ∧ w.cell? ⟨b, i * 3 + 2, none⟩ = some (.bool (bkAt H.blks i).used) := by
  have e := h.ob
  rw [hn] at e
  exact (own_at e (bkAt_get (by omega))).1

set_option maxHeartbeats 2000000 in
theorem hgive_EZ (h : Hm F w p H Vb Vd gl cs) (hok : H.Ok) (N : Nat) (hf : H.Few N) (hN : N ≤ 50000) (i : Nat) (hi : i < H.blks.length) (hE : H.blks.length ≤ i + 1) (hZ : i = 0) :
    Calls Tryz.prog 64 #[.pointer (some ⟨p, 0, none⟩), .int .i64 (i : Int)] w fun e w' => e = .returned (.tuple #[]) ∧ HT F w p (H.give i) w' := by
  obtain ⟨b1, c1, rfl, hb1, hnc1, _⟩ := own_nn h.ob (by omega)
  obtain ⟨b2, c2, rfl, hb2, hnc2, _⟩ := own_nn h.od (by rw [hok.dl]; omega)
  have hn512 := hok.n
  have z1 := (Hz.start h).set (a := ⟨b1, i * 3 + 2, none⟩) (u := .bool false) (h.fb b1 rfl) (h.useM rfl hi false)
  have z2 := z1.set (a := ⟨b2, i, none⟩) (u := .slice none 0 0) (h.fd b2 rfl) (z1.hm.wipeM (i := i) rfl)
  obtain ⟨w1, hw1⟩ : ∃ w1, w.setCell ⟨b1, i * 3 + 2, none⟩ (.bool false) = w1 := ⟨_, rfl⟩
  rw [hw1] at z1 z2
  obtain ⟨w2, hw2⟩ : ∃ w2, w1.setCell ⟨b2, i, none⟩ (.slice none 0 0) = w2 := ⟨_, rfl⟩
  rw [hw2] at z2
  have ok1 : ((H.use i false).wipe i).Ok := (hok.use hi false).wipe
  have fw1 : ((H.use i false).wipe i).Few N := hf
  have bl1 : ∀ k, bkAt ((H.use i false).wipe i).blks k = if k = i then { bkAt H.blks i with used := false } else bkAt H.blks k := fun k => bkAt_set H.blks i k _ hi
  have ln1 : ((H.use i false).wipe i).blks.length = H.blks.length := List.length_set ..
  have dl1 : ((H.use i false).wipe i).ds.length = H.blks.length := ok1.dl.trans ln1
  have hnx : nextF ((H.use i false).wipe i).blks i = false := by unfold nextF; rw [ln1, decide_eq_false (by omega)]; rfl
  have hgv := give_stay hnx
  clear hnx
  obtain ⟨H1, hH1⟩ : ∃ H1, (H.use i false).wipe i = H1 := ⟨_, rfl⟩
  rw [hH1] at hgv z2 ok1 fw1 bl1 ln1 dl1
  obtain ⟨n, hn⟩ : ∃ n, H.blks.length = n := ⟨_, rfl⟩
  have hdl0 : H.ds.length = n := hok.dl.trans hn
  rw [hn] at ln1 dl1 hi hnc1 hE hn512
  have q1 := h.c1
  rw [hn] at q1
  have f1 := own_thaw h.ob (i * 3 + 2)
  have q2 : w1.cell? ⟨p, 2, none⟩ = some (.slice (some ⟨b2, 0, none⟩) n c2) := by have e := z1.hm.c2; rw [hdl0] at e; exact e
  have f2 := own_thaw z1.hm.od i
  obtain ⟨_, q1b⟩ : ∃ u, w.cell? ⟨b1, i * 3 + 2, none⟩ = some u := ⟨_, (h.at_n rfl (by omega)).2.2⟩
  obtain ⟨_, q2b, _⟩ := own_cell1 z1.hm.od (j := i) (by show i < H.ds.length; omega)
  have q3 : w2.cell? ⟨p, 1, none⟩ = some (.slice (some ⟨b1, 0, none⟩) n c1) := by have e := z2.hm.c1; rw [hn] at e; exact e
  rw [hn, hdl0] at z2
  have HW1 := Lib.hid hw1
  have HW2 := Lib.hid hw2
  have hin : (i : Int) < (n : Int) := by omega
  have hie : (n : Int) ≤ (i : Int) + 1 := by omega
  have hiz : (i : Int) ≤ 0 := by omega
  have HZ := Lib.hid hZ
  have HGV := Lib.hid hgv
  have HOK1 := Lib.hid ok1
  have HFW1 := Lib.hid fw1
  have HBL1 := Lib.hid bl1
  have HLN1 := Lib.hid ln1
  have HDL1 := Lib.hid dl1
  have HN := Lib.hid hn
  have Z2 := Lib.hid z2
  clear h hok hf hb1 hb2 hw1 hw2 hH1 hZ hgv ok1 fw1 bl1 ln1 dl1 hn z1 z2 hE hdl0
  go_enter Tryz.func64, Tryz.ntmps64
  go_wp2_with (first | (rw [HW1.out]) | (rw [HW2.out]) | fail)
  have hprev : prevF H1.blks i = false := by unfold prevF; rw [decide_eq_false (by omega)]; rfl
  refine (hin_any Z2.out.hm i (by rw [HLN1.out]; omega) (HOK1.out.sz (by rw [HLN1.out]; omega)) (fun d hd => Nat.le_trans (HFW1.out d hd) (by omega))).mono ?_
  rintro e w9 ⟨rfl, ht⟩
  have hto : HT F w p (H.give i) w9 := by
    rw [HGV.out, giveC_stay hprev]
    exact Z2.out.last ht
  have HTO := Lib.hid hto
  clear hto ht hprev q3
  go_wp2
  go_end0
  exact ⟨rfl, HTO.out⟩

set_option maxHeartbeats 2000000 in
theorem hgive_EU (h : Hm F w p H Vb Vd gl cs) (hok : H.Ok) (N : Nat) (hf : H.Few N) (hN : N ≤ 50000) (i : Nat) (hi : i < H.blks.length) (hE : H.blks.length ≤ i + 1) (j : Nat) (hZ : i = j + 1) (hP : (bkAt H.blks j).used = true) :
    Calls Tryz.prog 64 #[.pointer (some ⟨p, 0, none⟩), .int .i64 (i : Int)] w fun e w' => e = .returned (.tuple #[]) ∧ HT F w p (H.give i) w' := by
  obtain ⟨b1, c1, rfl, hb1, hnc1, _⟩ := own_nn h.ob (by omega)
  obtain ⟨b2, c2, rfl, hb2, hnc2, _⟩ := own_nn h.od (by rw [hok.dl]; omega)
  have hn512 := hok.n
  have z1 := (Hz.start h).set (a := ⟨b1, i * 3 + 2, none⟩) (u := .bool false) (h.fb b1 rfl) (h.useM rfl hi false)
  have z2 := z1.set (a := ⟨b2, i, none⟩) (u := .slice none 0 0) (h.fd b2 rfl) (z1.hm.wipeM (i := i) rfl)
  obtain ⟨w1, hw1⟩ : ∃ w1, w.setCell ⟨b1, i * 3 + 2, none⟩ (.bool false) = w1 := ⟨_, rfl⟩
  rw [hw1] at z1 z2
  obtain ⟨w2, hw2⟩ : ∃ w2, w1.setCell ⟨b2, i, none⟩ (.slice none 0 0) = w2 := ⟨_, rfl⟩
  rw [hw2] at z2
  have ok1 : ((H.use i false).wipe i).Ok := (hok.use hi false).wipe
  have fw1 : ((H.use i false).wipe i).Few N := hf
  have bl1 : ∀ k, bkAt ((H.use i false).wipe i).blks k = if k = i then { bkAt H.blks i with used := false } else bkAt H.blks k := fun k => bkAt_set H.blks i k _ hi
  have ln1 : ((H.use i false).wipe i).blks.length = H.blks.length := List.length_set ..
  have dl1 : ((H.use i false).wipe i).ds.length = H.blks.length := ok1.dl.trans ln1
  have hnx : nextF ((H.use i false).wipe i).blks i = false := by unfold nextF; rw [ln1, decide_eq_false (by omega)]; rfl
  have hgv := give_stay hnx
  clear hnx
  obtain ⟨H1, hH1⟩ : ∃ H1, (H.use i false).wipe i = H1 := ⟨_, rfl⟩
  rw [hH1] at hgv z2 ok1 fw1 bl1 ln1 dl1
  obtain ⟨n, hn⟩ : ∃ n, H.blks.length = n := ⟨_, rfl⟩
  have hdl0 : H.ds.length = n := hok.dl.trans hn
  rw [hn] at ln1 dl1 hi hnc1 hE hn512
  have q1 := h.c1
  rw [hn] at q1
  have f1 := own_thaw h.ob (i * 3 + 2)
  have q2 : w1.cell? ⟨p, 2, none⟩ = some (.slice (some ⟨b2, 0, none⟩) n c2) := by have e := z1.hm.c2; rw [hdl0] at e; exact e
  have f2 := own_thaw z1.hm.od i
  obtain ⟨_, q1b⟩ : ∃ u, w.cell? ⟨b1, i * 3 + 2, none⟩ = some u := ⟨_, (h.at_n rfl (by omega)).2.2⟩
  obtain ⟨_, q2b, _⟩ := own_cell1 z1.hm.od (j := i) (by show i < H.ds.length; omega)
  have q3 : w2.cell? ⟨p, 1, none⟩ = some (.slice (some ⟨b1, 0, none⟩) n c1) := by have e := z2.hm.c1; rw [hn] at e; exact e
  rw [hn, hdl0] at z2
  have HW1 := Lib.hid hw1
  have HW2 := Lib.hid hw2
  have hin : (i : Int) < (n : Int) := by omega
  have hie : (n : Int) ≤ (i : Int) + 1 := by omega
  have hiz : 0 < (i : Int) := by omega
  have hji : j < i := by omega
  have hjz : (i : Int) - 1 = (j : Int) := by omega
  have bj := bl1 j
  rw [if_neg (by omega)] at bj
  have HZ := Lib.hid hZ
  have HGV := Lib.hid hgv
  have HOK1 := Lib.hid ok1
  have HFW1 := Lib.hid fw1
  have HBL1 := Lib.hid bl1
  have HLN1 := Lib.hid ln1
  have HDL1 := Lib.hid dl1
  have HN := Lib.hid hn
  have Z2 := Lib.hid z2
  have HBJ := Lib.hid bj
  have HP := Lib.hid hP
  clear bj hP
  clear h hok hf hb1 hb2 hw1 hw2 hH1 hZ hgv ok1 fw1 bl1 ln1 dl1 hn z1 z2 hE hdl0
  have q5 := (Z2.out.hm.at_n HLN1.out (i := j) (by omega)).2.2
  rw [HBJ.out, HP.out] at q5
  go_enter Tryz.func64, Tryz.ntmps64
  go_wp2_with (first | (rw [HW1.out]) | (rw [HW2.out]) | fail)
  have hprev : prevF H1.blks i = false := by unfold prevF; rw [show i - 1 = j by omega, HBJ.out, HP.out, Bool.not_true, Bool.and_false]
  refine (hin_any Z2.out.hm i (by rw [HLN1.out]; omega) (HOK1.out.sz (by rw [HLN1.out]; omega)) (fun d hd => Nat.le_trans (HFW1.out d hd) (by omega))).mono ?_
  rintro e w9 ⟨rfl, ht⟩
  have hto : HT F w p (H.give i) w9 := by
    rw [HGV.out, giveC_stay hprev]
    exact Z2.out.last ht
  have HTO := Lib.hid hto
  clear hto ht hprev q3
  go_wp2
  go_end0
  exact ⟨rfl, HTO.out⟩

set_option maxHeartbeats 2000000 in
theorem hgive_EY (h : Hm F w p H Vb Vd gl cs) (hok : H.Ok) (N : Nat) (hf : H.Few N) (hN : N ≤ 50000) (i : Nat) (hi : i < H.blks.length) (hE : H.blks.length ≤ i + 1) (j : Nat) (hZ : i = j + 1) (hP : (bkAt H.blks j).used = false) :
    Calls Tryz.prog 64 #[.pointer (some ⟨p, 0, none⟩), .int .i64 (i : Int)] w fun e w' => e = .returned (.tuple #[]) ∧ HT F w p (H.give i) w' := by
  obtain ⟨b1, c1, rfl, hb1, hnc1, _⟩ := own_nn h.ob (by omega)
  obtain ⟨b2, c2, rfl, hb2, hnc2, _⟩ := own_nn h.od (by rw [hok.dl]; omega)
  have hn512 := hok.n
  have z1 := (Hz.start h).set (a := ⟨b1, i * 3 + 2, none⟩) (u := .bool false) (h.fb b1 rfl) (h.useM rfl hi false)
  have z2 := z1.set (a := ⟨b2, i, none⟩) (u := .slice none 0 0) (h.fd b2 rfl) (z1.hm.wipeM (i := i) rfl)
  obtain ⟨w1, hw1⟩ : ∃ w1, w.setCell ⟨b1, i * 3 + 2, none⟩ (.bool false) = w1 := ⟨_, rfl⟩
  rw [hw1] at z1 z2
  obtain ⟨w2, hw2⟩ : ∃ w2, w1.setCell ⟨b2, i, none⟩ (.slice none 0 0) = w2 := ⟨_, rfl⟩
  rw [hw2] at z2
  have ok1 : ((H.use i false).wipe i).Ok := (hok.use hi false).wipe
  have fw1 : ((H.use i false).wipe i).Few N := hf
  have bl1 : ∀ k, bkAt ((H.use i false).wipe i).blks k = if k = i then { bkAt H.blks i with used := false } else bkAt H.blks k := fun k => bkAt_set H.blks i k _ hi
  have ln1 : ((H.use i false).wipe i).blks.length = H.blks.length := List.length_set ..
  have dl1 : ((H.use i false).wipe i).ds.length = H.blks.length := ok1.dl.trans ln1
  have hnx : nextF ((H.use i false).wipe i).blks i = false := by unfold nextF; rw [ln1, decide_eq_false (by omega)]; rfl
  have hgv := give_stay hnx
  clear hnx
  obtain ⟨H1, hH1⟩ : ∃ H1, (H.use i false).wipe i = H1 := ⟨_, rfl⟩
  rw [hH1] at hgv z2 ok1 fw1 bl1 ln1 dl1
  obtain ⟨n, hn⟩ : ∃ n, H.blks.length = n := ⟨_, rfl⟩
  have hdl0 : H.ds.length = n := hok.dl.trans hn
  rw [hn] at ln1 dl1 hi hnc1 hE hn512
  have q1 := h.c1
  rw [hn] at q1
  have f1 := own_thaw h.ob (i * 3 + 2)
  have q2 : w1.cell? ⟨p, 2, none⟩ = some (.slice (some ⟨b2, 0, none⟩) n c2) := by have e := z1.hm.c2; rw [hdl0] at e; exact e
  have f2 := own_thaw z1.hm.od i
  obtain ⟨_, q1b⟩ : ∃ u, w.cell? ⟨b1, i * 3 + 2, none⟩ = some u := ⟨_, (h.at_n rfl (by omega)).2.2⟩
  obtain ⟨_, q2b, _⟩ := own_cell1 z1.hm.od (j := i) (by show i < H.ds.length; omega)
  have q3 : w2.cell? ⟨p, 1, none⟩ = some (.slice (some ⟨b1, 0, none⟩) n c1) := by have e := z2.hm.c1; rw [hn] at e; exact e
  rw [hn, hdl0] at z2
  have HW1 := Lib.hid hw1
  have HW2 := Lib.hid hw2
  have hin : (i : Int) < (n : Int) := by omega
  have hie : (n : Int) ≤ (i : Int) + 1 := by omega
  have hiz : 0 < (i : Int) := by omega
  have hji : j < i := by omega
  have hjz : (i : Int) - 1 = (j : Int) := by omega
  have bj := bl1 j
  rw [if_neg (by omega)] at bj
  have HZ := Lib.hid hZ
  have HGV := Lib.hid hgv
  have HOK1 := Lib.hid ok1
  have HFW1 := Lib.hid fw1
  have HBL1 := Lib.hid bl1
  have HLN1 := Lib.hid ln1
  have HDL1 := Lib.hid dl1
  have HN := Lib.hid hn
  have Z2 := Lib.hid z2
  have HBJ := Lib.hid bj
  have HP := Lib.hid hP
  clear bj hP
  clear h hok hf hb1 hb2 hw1 hw2 hH1 hZ hgv ok1 fw1 bl1 ln1 dl1 hn z1 z2 hE hdl0
  have q5 := (Z2.out.hm.at_n HLN1.out (i := j) (by omega)).2.2
  rw [HBJ.out, HP.out] at q5
  go_enter Tryz.func64, Tryz.ntmps64
  go_wp2_with (first | (rw [HW1.out]) | (rw [HW2.out]) | fail)
  have hprev : prevF H1.blks i = true := by unfold prevF; rw [show i - 1 = j by omega, HBJ.out, HP.out, decide_eq_true (by omega)]; rfl
  clear q5
  refine (hout_any Z2.out.hm j (by rw [HLN1.out]; omega) (HOK1.out.sz (by rw [HLN1.out]; omega)) (fun d hd => Nat.le_trans (HFW1.out d hd) (by omega))).mono ?_
  rintro e w6 ⟨rfl, ht⟩
  obtain ⟨F6, Vb6, Vd6, gl6, cs6, z6⟩ := Z2.out.step ht
  obtain ⟨b6, c6, rfl, hb6, hnc6, _⟩ := own_nn z6.hm.ob (by show 0 < H1.blks.length; rw [HLN1.out]; omega)
  have e6 : (H1.out j).blks.length = n := HLN1.out
  rw [e6] at z6 hnc6
  obtain ⟨wx, hwx⟩ : ∃ wx, w6.drew = wx := ⟨_, rfl⟩
  have hbx : Below w6.heap.size w6 wx := by rw [← hwx]; exact (Below.refl _ _).drew
  have zx := z6.below hbx
  have r1 := zx.hm.c1
  have r2 := (zx.hm.at_n e6 (i := j) (by omega)).2.1
  have r3 := (zx.hm.at_n e6 (i := i) (by omega)).2.1
  have rf := own_thaw zx.hm.ob (j * 3 + 1)
  have hpx := zx.hm.lt
  have hbx6 : b6 < wx.heap.size := own_lt zx.hm.ob rfl
  obtain ⟨s5, hs5⟩ : ∃ s5, (bkAt (H1.out j).blks j).size = s5 := ⟨_, rfl⟩
  obtain ⟨s6, hs6⟩ : ∃ s6, (bkAt (H1.out j).blks i).size = s6 := ⟨_, rfl⟩
  rw [hs5] at r2
  rw [hs6] at r3
  have z7 := zx.set (a := ⟨b6, j * 3 + 1, none⟩) (u := .int .i64 ((s5 + s6 : Nat) : Int)) (zx.hm.fb b6 rfl) (zx.hm.sizeM (by rw [e6]) (by rw [e6]; omega) (s5 + s6))
  rw [Int.natCast_add] at z7
  have hs56 : s5 + s6 ≤ 16384 := by
    have e := (HOK1.out.two (i := j) (by rw [HLN1.out]; omega)).2
    rw [← HZ.out] at e
    rw [← hs5, ← hs6]; exact e
  obtain ⟨w7, hw7⟩ : ∃ w7, wx.setCell ⟨b6, j * 3 + 1, none⟩ (.int .i64 ((s5 : Int) + (s6 : Int))) = w7 := ⟨_, rfl⟩
  rw [hw7] at z7
  have HW7 := Lib.hid hw7
  have HWX := Lib.hid hwx
  have Z7 := Lib.hid z7
  have HS5 := Lib.hid hs5
  have HS6 := Lib.hid hs6
  have HRX := Lib.hid rf
  have HPV := Lib.hid hprev
  clear z6 zx z7 hw7 hwx hs5 hs6 ht hb6 rf hprev q3
  go_wp2_with fail
  refine wp_region_plan wx.heap.size (.fin [0, 1, 2, 3, 4, 5, 6, 7, 8, 9, 10, 11, 12, 13, 14, 15, 16, 17, 18, 19, 20, 21, 22, 23, 24, 25]) [26] (by kernel_rfl) (by kernel_rfl) (by kernel_rfl) (fun _ _ _ _ _ h => h) ?_
  rw [HWX.out]
  have t1 : ∀ z : LaterB wx.heap.size wx, z.val.cell? ⟨p, 1, none⟩ = some (.slice (some ⟨b6, 0, none⟩) n c6) := fun z => (z.ext.cell (p := ⟨p, 1, none⟩) hpx).trans r1
  have t2 : ∀ z : LaterB wx.heap.size wx, z.val.cell? ⟨b6, j * 3 + 1, none⟩ = some (.int .i64 (s5 : Int)) := fun z => (z.ext.cell (p := ⟨b6, j * 3 + 1, none⟩) hbx6).trans r2
  have t3 : ∀ z : LaterB wx.heap.size wx, z.val.cell? ⟨b6, i * 3 + 1, none⟩ = some (.int .i64 (s6 : Int)) := fun z => (z.ext.cell (p := ⟨b6, i * 3 + 1, none⟩) hbx6).trans r3
  refine plan_fin (l := ?laBEY) (t := ?tlBEY) ?hlaBEY ?htlBEY ?_
  case hlaBEY => simp only [pick, List.getElem?_toArray, List.getElem?_cons_succ, List.getElem?_cons_zero]; rfl
  case htlBEY => simp only [pick, List.getElem?_toArray, List.getElem?_cons_succ, List.getElem?_cons_zero]; rfl
  repeat (go_big_quiet_step (fail))
  refine wpQuiet_nil ?_
  clear t1 t2 t3 r1 r3
  have rf := HRX.out
  go_wp2_with (first | (rw [HW7.out]) | fail)
  clear rf r2
  have lnT : (((H1.out j).size j (s5 + s6))).blks.length = n := (List.length_set ..).trans HLN1.out
  refine (hdrop_any Z7.out.hm i (by rw [lnT]; omega) (by rw [lnT]; omega) (HDL1.out.trans lnT.symm)).mono ?_
  rintro e w8 ⟨rfl, ht⟩
  obtain ⟨F8, Vb8, Vd8, gl8, cs8, z8⟩ := Z7.out.step ht
  have eK : (((H1.out j).size j (s5 + s6))).drop i = (H1.out j).join j := by
    show _ = ((H1.out j).size j _).drop (j + 1)
    rw [← HZ.out, HS5.out, HS6.out]
  rw [eK] at z8
  have ok3 : ((H1.out j).join j).Ok := (Hp.Ok.out (i := j) HOK1.out).join (by rw [e6]; omega)
  have fw3 : ((H1.out j).join j).Few N := Hp.Few.out (i := j) HFW1.out
  have jb := (join_at (H1.out j) (i := j) (by rw [e6]; omega)).1
  have hg3 := giveC_join HPV.out
  rw [show i - 1 = j by omega] at hg3
  obtain ⟨H3, hH3⟩ : ∃ H3, (H1.out j).join j = H3 := ⟨_, rfl⟩
  rw [hH3] at z8 ok3 fw3 jb hg3
  have hgf := HGV.out
  rw [hg3] at hgf
  have HGF := Lib.hid hgf
  have HOK3 := Lib.hid ok3
  have HFW3 := Lib.hid fw3
  have HJB := Lib.hid jb
  have Z8 := Lib.hid z8
  clear hgf hg3 ok3 fw3 jb z8 hH3 ht eK lnT e6 Z7 HW7 HWX HRX
  go_wp2_with fail
  refine (hin_any Z8.out.hm j HJB.out (HOK3.out.sz HJB.out) (fun d hd => Nat.le_trans (HFW3.out d hd) (by omega))).mono ?_
  rintro e w9 ⟨rfl, ht⟩
  have hto : HT F w p (H.give i) w9 := by
    rw [HGF.out]
    exact Z8.out.last ht
  have HTO := Lib.hid hto
  clear hto ht
  go_wp2
  go_end0
  exact ⟨rfl, HTO.out⟩

set_option maxHeartbeats 2000000 in
theorem hgive_UZ (h : Hm F w p H Vb Vd gl cs) (hok : H.Ok) (N : Nat) (hf : H.Few N) (hN : N ≤ 50000) (i : Nat) (hi : i < H.blks.length) (hE : i + 1 < H.blks.length) (hU : (bkAt H.blks (i + 1)).used = true) (hZ : i = 0) :
    Calls Tryz.prog 64 #[.pointer (some ⟨p, 0, none⟩), .int .i64 (i : Int)] w fun e w' => e = .returned (.tuple #[]) ∧ HT F w p (H.give i) w' := by
  obtain ⟨b1, c1, rfl, hb1, hnc1, _⟩ := own_nn h.ob (by omega)
  obtain ⟨b2, c2, rfl, hb2, hnc2, _⟩ := own_nn h.od (by rw [hok.dl]; omega)
  have hn512 := hok.n
  have z1 := (Hz.start h).set (a := ⟨b1, i * 3 + 2, none⟩) (u := .bool false) (h.fb b1 rfl) (h.useM rfl hi false)
  have z2 := z1.set (a := ⟨b2, i, none⟩) (u := .slice none 0 0) (h.fd b2 rfl) (z1.hm.wipeM (i := i) rfl)
  obtain ⟨w1, hw1⟩ : ∃ w1, w.setCell ⟨b1, i * 3 + 2, none⟩ (.bool false) = w1 := ⟨_, rfl⟩
  rw [hw1] at z1 z2
  obtain ⟨w2, hw2⟩ : ∃ w2, w1.setCell ⟨b2, i, none⟩ (.slice none 0 0) = w2 := ⟨_, rfl⟩
  rw [hw2] at z2
  have ok1 : ((H.use i false).wipe i).Ok := (hok.use hi false).wipe
  have fw1 : ((H.use i false).wipe i).Few N := hf
  have bl1 : ∀ k, bkAt ((H.use i false).wipe i).blks k = if k = i then { bkAt H.blks i with used := false } else bkAt H.blks k := fun k => bkAt_set H.blks i k _ hi
  have ln1 : ((H.use i false).wipe i).blks.length = H.blks.length := List.length_set ..
  have dl1 : ((H.use i false).wipe i).ds.length = H.blks.length := ok1.dl.trans ln1
  have hnx : nextF ((H.use i false).wipe i).blks i = false := by unfold nextF; rw [bl1, if_neg (by omega), hU, Bool.not_true, Bool.and_false]
  have hgv := give_stay hnx
  clear hnx
  obtain ⟨H1, hH1⟩ : ∃ H1, (H.use i false).wipe i = H1 := ⟨_, rfl⟩
  rw [hH1] at hgv z2 ok1 fw1 bl1 ln1 dl1
  obtain ⟨n, hn⟩ : ∃ n, H.blks.length = n := ⟨_, rfl⟩
  have u2 := bl1 (i + 1)
  rw [if_neg (by omega)] at u2
  have hdl0 : H.ds.length = n := hok.dl.trans hn
  rw [hn] at ln1 dl1 hi hnc1 hE hn512
  have q1 := h.c1
  rw [hn] at q1
  have f1 := own_thaw h.ob (i * 3 + 2)
  have q2 : w1.cell? ⟨p, 2, none⟩ = some (.slice (some ⟨b2, 0, none⟩) n c2) := by have e := z1.hm.c2; rw [hdl0] at e; exact e
  have f2 := own_thaw z1.hm.od i
  obtain ⟨_, q1b⟩ : ∃ u, w.cell? ⟨b1, i * 3 + 2, none⟩ = some u := ⟨_, (h.at_n rfl (by omega)).2.2⟩
  obtain ⟨_, q2b, _⟩ := own_cell1 z1.hm.od (j := i) (by show i < H.ds.length; omega)
  have q3 : w2.cell? ⟨p, 1, none⟩ = some (.slice (some ⟨b1, 0, none⟩) n c1) := by have e := z2.hm.c1; rw [hn] at e; exact e
  rw [hn, hdl0] at z2
  obtain ⟨k, hk⟩ : ∃ k : Nat, (i : Int) + 1 = (k : Int) := ⟨i + 1, by omega⟩
  have HK : Hid (k = i + 1) := (show _ = _ by omega)
  have q4 := (z2.hm.at_n ln1 (i := i + 1) (by omega)).2.2
  rw [u2, hU, ← HK.out] at q4
  have HW1 := Lib.hid hw1
  have HW2 := Lib.hid hw2
  have hin : (i : Int) < (n : Int) := by omega
  have hie : (i : Int) + 1 < (n : Int) := by omega
  have hiz : (i : Int) ≤ 0 := by omega
  have HZ := Lib.hid hZ
  have HGV := Lib.hid hgv
  have HOK1 := Lib.hid ok1
  have HFW1 := Lib.hid fw1
  have HBL1 := Lib.hid bl1
  have HLN1 := Lib.hid ln1
  have HDL1 := Lib.hid dl1
  have HN := Lib.hid hn
  have Z2 := Lib.hid z2
  have HU2 := Lib.hid u2
  have HU := Lib.hid hU
  clear u2 hU
  clear h hok hf hb1 hb2 hw1 hw2 hH1 hZ hgv ok1 fw1 bl1 ln1 dl1 hn z1 z2 hE hdl0
  go_enter Tryz.func64, Tryz.ntmps64
  go_wp2_with (first | (rw [HW1.out]) | (rw [HW2.out]) | fail)
  have hprev : prevF H1.blks i = false := by unfold prevF; rw [decide_eq_false (by omega)]; rfl
  refine (hin_any Z2.out.hm i (by rw [HLN1.out]; omega) (HOK1.out.sz (by rw [HLN1.out]; omega)) (fun d hd => Nat.le_trans (HFW1.out d hd) (by omega))).mono ?_
  rintro e w9 ⟨rfl, ht⟩
  have hto : HT F w p (H.give i) w9 := by
    rw [HGV.out, giveC_stay hprev]
    exact Z2.out.last ht
  have HTO := Lib.hid hto
  clear hto ht hprev q3
  go_wp2
  go_end0
  exact ⟨rfl, HTO.out⟩

set_option maxHeartbeats 2000000 in
theorem hgive_UU (h : Hm F w p H Vb Vd gl cs) (hok : H.Ok) (N : Nat) (hf : H.Few N) (hN : N ≤ 50000) (i : Nat) (hi : i < H.blks.length) (hE : i + 1 < H.blks.length) (hU : (bkAt H.blks (i + 1)).used = true) (j : Nat) (hZ : i = j + 1) (hP : (bkAt H.blks j).used = true) :
    Calls Tryz.prog 64 #[.pointer (some ⟨p, 0, none⟩), .int .i64 (i : Int)] w fun e w' => e = .returned (.tuple #[]) ∧ HT F w p (H.give i) w' := by
  obtain ⟨b1, c1, rfl, hb1, hnc1, _⟩ := own_nn h.ob (by omega)
  obtain ⟨b2, c2, rfl, hb2, hnc2, _⟩ := own_nn h.od (by rw [hok.dl]; omega)
  have hn512 := hok.n
  have z1 := (Hz.start h).set (a := ⟨b1, i * 3 + 2, none⟩) (u := .bool false) (h.fb b1 rfl) (h.useM rfl hi false)
  have z2 := z1.set (a := ⟨b2, i, none⟩) (u := .slice none 0 0) (h.fd b2 rfl) (z1.hm.wipeM (i := i) rfl)
  obtain ⟨w1, hw1⟩ : ∃ w1, w.setCell ⟨b1, i * 3 + 2, none⟩ (.bool false) = w1 := ⟨_, rfl⟩
  rw [hw1] at z1 z2
  obtain ⟨w2, hw2⟩ : ∃ w2, w1.setCell ⟨b2, i, none⟩ (.slice none 0 0) = w2 := ⟨_, rfl⟩
  rw [hw2] at z2
  have ok1 : ((H.use i false).wipe i).Ok := (hok.use hi false).wipe
  have fw1 : ((H.use i false).wipe i).Few N := hf
  have bl1 : ∀ k, bkAt ((H.use i false).wipe i).blks k = if k = i then { bkAt H.blks i with used := false } else bkAt H.blks k := fun k => bkAt_set H.blks i k _ hi
  have ln1 : ((H.use i false).wipe i).blks.length = H.blks.length := List.length_set ..
  have dl1 : ((H.use i false).wipe i).ds.length = H.blks.length := ok1.dl.trans ln1
  have hnx : nextF ((H.use i false).wipe i).blks i = false := by unfold nextF; rw [bl1, if_neg (by omega), hU, Bool.not_true, Bool.and_false]
  have hgv := give_stay hnx
  clear hnx
  obtain ⟨H1, hH1⟩ : ∃ H1, (H.use i false).wipe i = H1 := ⟨_, rfl⟩
  rw [hH1] at hgv z2 ok1 fw1 bl1 ln1 dl1
  obtain ⟨n, hn⟩ : ∃ n, H.blks.length = n := ⟨_, rfl⟩
  have u2 := bl1 (i + 1)
  rw [if_neg (by omega)] at u2
  have hdl0 : H.ds.length = n := hok.dl.trans hn
  rw [hn] at ln1 dl1 hi hnc1 hE hn512
  have q1 := h.c1
  rw [hn] at q1
  have f1 := own_thaw h.ob (i * 3 + 2)
  have q2 : w1.cell? ⟨p, 2, none⟩ = some (.slice (some ⟨b2, 0, none⟩) n c2) := by have e := z1.hm.c2; rw [hdl0] at e; exact e
  have f2 := own_thaw z1.hm.od i
  obtain ⟨_, q1b⟩ : ∃ u, w.cell? ⟨b1, i * 3 + 2, none⟩ = some u := ⟨_, (h.at_n rfl (by omega)).2.2⟩
  obtain ⟨_, q2b, _⟩ := own_cell1 z1.hm.od (j := i) (by show i < H.ds.length; omega)
  have q3 : w2.cell? ⟨p, 1, none⟩ = some (.slice (some ⟨b1, 0, none⟩) n c1) := by have e := z2.hm.c1; rw [hn] at e; exact e
  rw [hn, hdl0] at z2
  obtain ⟨k, hk⟩ : ∃ k : Nat, (i : Int) + 1 = (k : Int) := ⟨i + 1, by omega⟩
  have HK : Hid (k = i + 1) := (show _ = _ by omega)
  have q4 := (z2.hm.at_n ln1 (i := i + 1) (by omega)).2.2
  rw [u2, hU, ← HK.out] at q4
  have HW1 := Lib.hid hw1
  have HW2 := Lib.hid hw2
  have hin : (i : Int) < (n : Int) := by omega
  have hie : (i : Int) + 1 < (n : Int) := by omega
  have hiz : 0 < (i : Int) := by omega
  have hji : j < i := by omega
  have hjz : (i : Int) - 1 = (j : Int) := by omega
  have bj := bl1 j
  rw [if_neg (by omega)] at bj
  have HZ := Lib.hid hZ
  have HGV := Lib.hid hgv
  have HOK1 := Lib.hid ok1
  have HFW1 := Lib.hid fw1
  have HBL1 := Lib.hid bl1
  have HLN1 := Lib.hid ln1
  have HDL1 := Lib.hid dl1
  have HN := Lib.hid hn
  have Z2 := Lib.hid z2
  have HBJ := Lib.hid bj
  have HP := Lib.hid hP
  clear bj hP
  have HU2 := Lib.hid u2
  have HU := Lib.hid hU
  clear u2 hU
  clear h hok hf hb1 hb2 hw1 hw2 hH1 hZ hgv ok1 fw1 bl1 ln1 dl1 hn z1 z2 hE hdl0
  have q5 := (Z2.out.hm.at_n HLN1.out (i := j) (by omega)).2.2
  rw [HBJ.out, HP.out] at q5
  go_enter Tryz.func64, Tryz.ntmps64
  go_wp2_with (first | (rw [HW1.out]) | (rw [HW2.out]) | fail)
  have hprev : prevF H1.blks i = false := by unfold prevF; rw [show i - 1 = j by omega, HBJ.out, HP.out, Bool.not_true, Bool.and_false]
  refine (hin_any Z2.out.hm i (by rw [HLN1.out]; omega) (HOK1.out.sz (by rw [HLN1.out]; omega)) (fun d hd => Nat.le_trans (HFW1.out d hd) (by omega))).mono ?_
  rintro e w9 ⟨rfl, ht⟩
  have hto : HT F w p (H.give i) w9 := by
    rw [HGV.out, giveC_stay hprev]
    exact Z2.out.last ht
  have HTO := Lib.hid hto
  clear hto ht hprev q3
  go_wp2
  go_end0
  exact ⟨rfl, HTO.out⟩

set_option maxHeartbeats 2000000 in
theorem hgive_UY (h : Hm F w p H Vb Vd gl cs) (hok : H.Ok) (N : Nat) (hf : H.Few N) (hN : N ≤ 50000) (i : Nat) (hi : i < H.blks.length) (hE : i + 1 < H.blks.length) (hU : (bkAt H.blks (i + 1)).used = true) (j : Nat) (hZ : i = j + 1) (hP : (bkAt H.blks j).used = false) :
    Calls Tryz.prog 64 #[.pointer (some ⟨p, 0, none⟩), .int .i64 (i : Int)] w fun e w' => e = .returned (.tuple #[]) ∧ HT F w p (H.give i) w' := by
  obtain ⟨b1, c1, rfl, hb1, hnc1, _⟩ := own_nn h.ob (by omega)
  obtain ⟨b2, c2, rfl, hb2, hnc2, _⟩ := own_nn h.od (by rw [hok.dl]; omega)
  have hn512 := hok.n
  have z1 := (Hz.start h).set (a := ⟨b1, i * 3 + 2, none⟩) (u := .bool false) (h.fb b1 rfl) (h.useM rfl hi false)
  have z2 := z1.set (a := ⟨b2, i, none⟩) (u := .slice none 0 0) (h.fd b2 rfl) (z1.hm.wipeM (i := i) rfl)
  obtain ⟨w1, hw1⟩ : ∃ w1, w.setCell ⟨b1, i * 3 + 2, none⟩ (.bool false) = w1 := ⟨_, rfl⟩
  rw [hw1] at z1 z2
  obtain ⟨w2, hw2⟩ : ∃ w2, w1.setCell ⟨b2, i, none⟩ (.slice none 0 0) = w2 := ⟨_, rfl⟩
  rw [hw2] at z2
  have ok1 : ((H.use i false).wipe i).Ok := (hok.use hi false).wipe
  have fw1 : ((H.use i false).wipe i).Few N := hf
  have bl1 : ∀ k, bkAt ((H.use i false).wipe i).blks k = if k = i then { bkAt H.blks i with used := false } else bkAt H.blks k := fun k => bkAt_set H.blks i k _ hi
  have ln1 : ((H.use i false).wipe i).blks.length = H.blks.length := List.length_set ..
  have dl1 : ((H.use i false).wipe i).ds.length = H.blks.length := ok1.dl.trans ln1
  have hnx : nextF ((H.use i false).wipe i).blks i = false := by unfold nextF; rw [bl1, if_neg (by omega), hU, Bool.not_true, Bool.and_false]
  have hgv := give_stay hnx
  clear hnx
  obtain ⟨H1, hH1⟩ : ∃ H1, (H.use i false).wipe i = H1 := ⟨_, rfl⟩
  rw [hH1] at hgv z2 ok1 fw1 bl1 ln1 dl1
  obtain ⟨n, hn⟩ : ∃ n, H.blks.length = n := ⟨_, rfl⟩
  have u2 := bl1 (i + 1)
  rw [if_neg (by omega)] at u2
  have hdl0 : H.ds.length = n := hok.dl.trans hn
  rw [hn] at ln1 dl1 hi hnc1 hE hn512
  have q1 := h.c1
  rw [hn] at q1
  have f1 := own_thaw h.ob (i * 3 + 2)
  have q2 : w1.cell? ⟨p, 2, none⟩ = some (.slice (some ⟨b2, 0, none⟩) n c2) := by have e := z1.hm.c2; rw [hdl0] at e; exact e
  have f2 := own_thaw z1.hm.od i
  obtain ⟨_, q1b⟩ : ∃ u, w.cell? ⟨b1, i * 3 + 2, none⟩ = some u := ⟨_, (h.at_n rfl (by omega)).2.2⟩
  obtain ⟨_, q2b, _⟩ := own_cell1 z1.hm.od (j := i) (by show i < H.ds.length; omega)
  have q3 : w2.cell? ⟨p, 1, none⟩ = some (.slice (some ⟨b1, 0, none⟩) n c1) := by have e := z2.hm.c1; rw [hn] at e; exact e
  rw [hn, hdl0] at z2
  obtain ⟨k, hk⟩ : ∃ k : Nat, (i : Int) + 1 = (k : Int) := ⟨i + 1, by omega⟩
  have HK : Hid (k = i + 1) := (show _ = _ by omega)
  have q4 := (z2.hm.at_n ln1 (i := i + 1) (by omega)).2.2
  rw [u2, hU, ← HK.out] at q4
  have HW1 := Lib.hid hw1
  have HW2 := Lib.hid hw2
  have hin : (i : Int) < (n : Int) := by omega
  have hie : (i : Int) + 1 < (n : Int) := by omega
  have hiz : 0 < (i : Int) := by omega
  have hji : j < i := by omega
  have hjz : (i : Int) - 1 = (j : Int) := by omega
  have bj := bl1 j
  rw [if_neg (by omega)] at bj
  have HZ := Lib.hid hZ
  have HGV := Lib.hid hgv
  have HOK1 := Lib.hid ok1
  have HFW1 := Lib.hid fw1
  have HBL1 := Lib.hid bl1
  have HLN1 := Lib.hid ln1
  have HDL1 := Lib.hid dl1
  have HN := Lib.hid hn
  have Z2 := Lib.hid z2
  have HBJ := Lib.hid bj
  have HP := Lib.hid hP
  clear bj hP
  have HU2 := Lib.hid u2
  have HU := Lib.hid hU
  clear u2 hU
  clear h hok hf hb1 hb2 hw1 hw2 hH1 hZ hgv ok1 fw1 bl1 ln1 dl1 hn z1 z2 hE hdl0
  have q5 := (Z2.out.hm.at_n HLN1.out (i := j) (by omega)).2.2
  rw [HBJ.out, HP.out] at q5
  go_enter Tryz.func64, Tryz.ntmps64
  go_wp2_with (first | (rw [HW1.out]) | (rw [HW2.out]) | fail)
  have hprev : prevF H1.blks i = true := by unfold prevF; rw [show i - 1 = j by omega, HBJ.out, HP.out, decide_eq_true (by omega)]; rfl
  clear q5
  refine (hout_any Z2.out.hm j (by rw [HLN1.out]; omega) (HOK1.out.sz (by rw [HLN1.out]; omega)) (fun d hd => Nat.le_trans (HFW1.out d hd) (by omega))).mono ?_
  rintro e w6 ⟨rfl, ht⟩
  obtain ⟨F6, Vb6, Vd6, gl6, cs6, z6⟩ := Z2.out.step ht
  obtain ⟨b6, c6, rfl, hb6, hnc6, _⟩ := own_nn z6.hm.ob (by show 0 < H1.blks.length; rw [HLN1.out]; omega)
  have e6 : (H1.out j).blks.length = n := HLN1.out
  rw [e6] at z6 hnc6
  obtain ⟨wx, hwx⟩ : ∃ wx, w6.drew = wx := ⟨_, rfl⟩
  have hbx : Below w6.heap.size w6 wx := by rw [← hwx]; exact (Below.refl _ _).drew
  have zx := z6.below hbx
  have r1 := zx.hm.c1
  have r2 := (zx.hm.at_n e6 (i := j) (by omega)).2.1
  have r3 := (zx.hm.at_n e6 (i := i) (by omega)).2.1
  have rf := own_thaw zx.hm.ob (j * 3 + 1)
  have hpx := zx.hm.lt
  have hbx6 : b6 < wx.heap.size := own_lt zx.hm.ob rfl
  obtain ⟨s5, hs5⟩ : ∃ s5, (bkAt (H1.out j).blks j).size = s5 := ⟨_, rfl⟩
  obtain ⟨s6, hs6⟩ : ∃ s6, (bkAt (H1.out j).blks i).size = s6 := ⟨_, rfl⟩
  rw [hs5] at r2
  rw [hs6] at r3
  have z7 := zx.set (a := ⟨b6, j * 3 + 1, none⟩) (u := .int .i64 ((s5 + s6 : Nat) : Int)) (zx.hm.fb b6 rfl) (zx.hm.sizeM (by rw [e6]) (by rw [e6]; omega) (s5 + s6))
  rw [Int.natCast_add] at z7
  have hs56 : s5 + s6 ≤ 16384 := by
    have e := (HOK1.out.two (i := j) (by rw [HLN1.out]; omega)).2
    rw [← HZ.out] at e
    rw [← hs5, ← hs6]; exact e
  obtain ⟨w7, hw7⟩ : ∃ w7, wx.setCell ⟨b6, j * 3 + 1, none⟩ (.int .i64 ((s5 : Int) + (s6 : Int))) = w7 := ⟨_, rfl⟩
  rw [hw7] at z7
  have HW7 := Lib.hid hw7
  have HWX := Lib.hid hwx
  have Z7 := Lib.hid z7
  have HS5 := Lib.hid hs5
  have HS6 := Lib.hid hs6
  have HRX := Lib.hid rf
  have HPV := Lib.hid hprev
  clear z6 zx z7 hw7 hwx hs5 hs6 ht hb6 rf hprev q3
  go_wp2_with fail
  refine wp_region_plan wx.heap.size (.fin [0, 1, 2, 3, 4, 5, 6, 7, 8, 9, 10, 11, 12, 13, 14, 15, 16, 17, 18, 19, 20, 21, 22, 23, 24, 25]) [26] (by kernel_rfl) (by kernel_rfl) (by kernel_rfl) (fun _ _ _ _ _ h => h) ?_
  rw [HWX.out]
  have t1 : ∀ z : LaterB wx.heap.size wx, z.val.cell? ⟨p, 1, none⟩ = some (.slice (some ⟨b6, 0, none⟩) n c6) := fun z => (z.ext.cell (p := ⟨p, 1, none⟩) hpx).trans r1
  have t2 : ∀ z : LaterB wx.heap.size wx, z.val.cell? ⟨b6, j * 3 + 1, none⟩ = some (.int .i64 (s5 : Int)) := fun z => (z.ext.cell (p := ⟨b6, j * 3 + 1, none⟩) hbx6).trans r2
  have t3 : ∀ z : LaterB wx.heap.size wx, z.val.cell? ⟨b6, i * 3 + 1, none⟩ = some (.int .i64 (s6 : Int)) := fun z => (z.ext.cell (p := ⟨b6, i * 3 + 1, none⟩) hbx6).trans r3
  refine plan_fin (l := ?laBUY) (t := ?tlBUY) ?hlaBUY ?htlBUY ?_
  case hlaBUY => simp only [pick, List.getElem?_toArray, List.getElem?_cons_succ, List.getElem?_cons_zero]; rfl
  case htlBUY => simp only [pick, List.getElem?_toArray, List.getElem?_cons_succ, List.getElem?_cons_zero]; rfl
  repeat (go_big_quiet_step (fail))
  refine wpQuiet_nil ?_
  clear t1 t2 t3 r1 r3
  have rf := HRX.out
  go_wp2_with (first | (rw [HW7.out]) | fail)
  clear rf r2
  have lnT : (((H1.out j).size j (s5 + s6))).blks.length = n := (List.length_set ..).trans HLN1.out
  refine (hdrop_any Z7.out.hm i (by rw [lnT]; omega) (by rw [lnT]; omega) (HDL1.out.trans lnT.symm)).mono ?_
  rintro e w8 ⟨rfl, ht⟩
  obtain ⟨F8, Vb8, Vd8, gl8, cs8, z8⟩ := Z7.out.step ht
  have eK : (((H1.out j).size j (s5 + s6))).drop i = (H1.out j).join j := by
    show _ = ((H1.out j).size j _).drop (j + 1)
    rw [← HZ.out, HS5.out, HS6.out]
  rw [eK] at z8
  have ok3 : ((H1.out j).join j).Ok := (Hp.Ok.out (i := j) HOK1.out).join (by rw [e6]; omega)
  have fw3 : ((H1.out j).join j).Few N := Hp.Few.out (i := j) HFW1.out
  have jb := (join_at (H1.out j) (i := j) (by rw [e6]; omega)).1
  have hg3 := giveC_join HPV.out
  rw [show i - 1 = j by omega] at hg3
  obtain ⟨H3, hH3⟩ : ∃ H3, (H1.out j).join j = H3 := ⟨_, rfl⟩
  rw [hH3] at z8 ok3 fw3 jb hg3
  have hgf := HGV.out
  rw [hg3] at hgf
  have HGF := Lib.hid hgf
  have HOK3 := Lib.hid ok3
  have HFW3 := Lib.hid fw3
  have HJB := Lib.hid jb
  have Z8 := Lib.hid z8
  clear hgf hg3 ok3 fw3 jb z8 hH3 ht eK lnT e6 Z7 HW7 HWX HRX
  go_wp2_with fail
  refine (hin_any Z8.out.hm j HJB.out (HOK3.out.sz HJB.out) (fun d hd => Nat.le_trans (HFW3.out d hd) (by omega))).mono ?_
  rintro e w9 ⟨rfl, ht⟩
  have hto : HT F w p (H.give i) w9 := by
    rw [HGF.out]
    exact Z8.out.last ht
  have HTO := Lib.hid hto
  clear hto ht
  go_wp2
  go_end0
  exact ⟨rfl, HTO.out⟩

set_option maxHeartbeats 2000000 in
theorem hgive_YZ (h : Hm F w p H Vb Vd gl cs) (hok : H.Ok) (N : Nat) (hf : H.Few N) (hN : N ≤ 50000) (i : Nat) (hi : i < H.blks.length) (hE : i + 1 < H.blks.length) (hU : (bkAt H.blks (i + 1)).used = false) (hZ : i = 0) :
    Calls Tryz.prog 64 #[.pointer (some ⟨p, 0, none⟩), .int .i64 (i : Int)] w fun e w' => e = .returned (.tuple #[]) ∧ HT F w p (H.give i) w' := by
  obtain ⟨b1, c1, rfl, hb1, hnc1, _⟩ := own_nn h.ob (by omega)
  obtain ⟨b2, c2, rfl, hb2, hnc2, _⟩ := own_nn h.od (by rw [hok.dl]; omega)
  have hn512 := hok.n
  have z1 := (Hz.start h).set (a := ⟨b1, i * 3 + 2, none⟩) (u := .bool false) (h.fb b1 rfl) (h.useM rfl hi false)
  have z2 := z1.set (a := ⟨b2, i, none⟩) (u := .slice none 0 0) (h.fd b2 rfl) (z1.hm.wipeM (i := i) rfl)
  obtain ⟨w1, hw1⟩ : ∃ w1, w.setCell ⟨b1, i * 3 + 2, none⟩ (.bool false) = w1 := ⟨_, rfl⟩
  rw [hw1] at z1 z2
  obtain ⟨w2, hw2⟩ : ∃ w2, w1.setCell ⟨b2, i, none⟩ (.slice none 0 0) = w2 := ⟨_, rfl⟩
  rw [hw2] at z2
  have ok1 : ((H.use i false).wipe i).Ok := (hok.use hi false).wipe
  have fw1 : ((H.use i false).wipe i).Few N := hf
  have bl1 : ∀ k, bkAt ((H.use i false).wipe i).blks k = if k = i then { bkAt H.blks i with used := false } else bkAt H.blks k := fun k => bkAt_set H.blks i k _ hi
  have ln1 : ((H.use i false).wipe i).blks.length = H.blks.length := List.length_set ..
  have dl1 : ((H.use i false).wipe i).ds.length = H.blks.length := ok1.dl.trans ln1
  have hnx : nextF ((H.use i false).wipe i).blks i = true := by unfold nextF; rw [ln1, bl1, if_neg (by omega), hU, decide_eq_true hE]; rfl
  have hgv := give_join hnx
  clear hnx
  obtain ⟨H1, hH1⟩ : ∃ H1, (H.use i false).wipe i = H1 := ⟨_, rfl⟩
  rw [hH1] at hgv z2 ok1 fw1 bl1 ln1 dl1
  obtain ⟨n, hn⟩ : ∃ n, H.blks.length = n := ⟨_, rfl⟩
  have u2 := bl1 (i + 1)
  rw [if_neg (by omega)] at u2
  have hdl0 : H.ds.length = n := hok.dl.trans hn
  rw [hn] at ln1 dl1 hi hnc1 hE hn512
  have q1 := h.c1
  rw [hn] at q1
  have f1 := own_thaw h.ob (i * 3 + 2)
  have q2 : w1.cell? ⟨p, 2, none⟩ = some (.slice (some ⟨b2, 0, none⟩) n c2) := by have e := z1.hm.c2; rw [hdl0] at e; exact e
  have f2 := own_thaw z1.hm.od i
  obtain ⟨_, q1b⟩ : ∃ u, w.cell? ⟨b1, i * 3 + 2, none⟩ = some u := ⟨_, (h.at_n rfl (by omega)).2.2⟩
  obtain ⟨_, q2b, _⟩ := own_cell1 z1.hm.od (j := i) (by show i < H.ds.length; omega)
  have q3 : w2.cell? ⟨p, 1, none⟩ = some (.slice (some ⟨b1, 0, none⟩) n c1) := by have e := z2.hm.c1; rw [hn] at e; exact e
  rw [hn, hdl0] at z2
  obtain ⟨k, hk⟩ : ∃ k : Nat, (i : Int) + 1 = (k : Int) := ⟨i + 1, by omega⟩
  have HK : Hid (k = i + 1) := (show _ = _ by omega)
  have q4 := (z2.hm.at_n ln1 (i := i + 1) (by omega)).2.2
  rw [u2, hU, ← HK.out] at q4
  have HW1 := Lib.hid hw1
  have HW2 := Lib.hid hw2
  have hin : (i : Int) < (n : Int) := by omega
  have hie : (i : Int) + 1 < (n : Int) := by omega
  have hiz : (i : Int) ≤ 0 := by omega
  have HZ := Lib.hid hZ
  have HGV := Lib.hid hgv
  have HOK1 := Lib.hid ok1
  have HFW1 := Lib.hid fw1
  have HBL1 := Lib.hid bl1
  have HLN1 := Lib.hid ln1
  have HDL1 := Lib.hid dl1
  have HN := Lib.hid hn
  have Z2 := Lib.hid z2
  have HU2 := Lib.hid u2
  have HU := Lib.hid hU
  clear u2 hU
  clear h hok hf hb1 hb2 hw1 hw2 hH1 hZ hgv ok1 fw1 bl1 ln1 dl1 hn z1 z2 hE hdl0
  go_enter Tryz.func64, Tryz.ntmps64
  go_wp2_with (first | (rw [HW1.out]) | (rw [HW2.out]) | fail)
  clear q1 q2 q4 f1 f2 q1b q2b HW1 HW2
  refine (hout_any Z2.out.hm k (by rw [HLN1.out]; omega) (HOK1.out.sz (by rw [HLN1.out]; omega)) (fun d hd => Nat.le_trans (HFW1.out d hd) (by omega))).mono ?_
  rintro e w3 ⟨rfl, ht⟩
  obtain ⟨F3, Vb3, Vd3, gl3, cs3, z3⟩ := Z2.out.step ht
  obtain ⟨b3, c3, rfl, hb3, hnc3, _⟩ := own_nn z3.hm.ob (by show 0 < H1.blks.length; rw [HLN1.out]; omega)
  have e3 : (H1.out k).blks.length = n := HLN1.out
  rw [e3] at z3 hnc3
  obtain ⟨wd, hwd⟩ : ∃ wd, w3.drew = wd := ⟨_, rfl⟩
  have hbd : Below w3.heap.size w3 wd := by rw [← hwd]; exact (Below.refl _ _).drew
  have zd := z3.below hbd
  have r1 := zd.hm.c1
  have r2 := (zd.hm.at_n e3 (i := i) hi).2.1
  have r3 := (zd.hm.at_n e3 (i := k) (by omega)).2.1
  have rf := own_thaw zd.hm.ob (i * 3 + 1)
  have hpd := zd.hm.lt
  have hbd3 : b3 < wd.heap.size := own_lt zd.hm.ob rfl
  obtain ⟨s1, hs1⟩ : ∃ s1, (bkAt (H1.out k).blks i).size = s1 := ⟨_, rfl⟩
  obtain ⟨s2, hs2⟩ : ∃ s2, (bkAt (H1.out k).blks k).size = s2 := ⟨_, rfl⟩
  rw [hs1] at r2
  rw [hs2] at r3
  have z4 := zd.set (a := ⟨b3, i * 3 + 1, none⟩) (u := .int .i64 ((s1 + s2 : Nat) : Int)) (zd.hm.fb b3 rfl) (zd.hm.sizeM (by rw [e3]) (by rw [e3]; exact hi) (s1 + s2))
  rw [Int.natCast_add] at z4
  have hs12 : s1 + s2 ≤ 16384 := by
    have e := (HOK1.out.two (i := i) (by rw [HLN1.out]; omega)).2
    rw [← HK.out] at e
    rw [← hs1, ← hs2]; exact e
  obtain ⟨w4, hw4⟩ : ∃ w4, wd.setCell ⟨b3, i * 3 + 1, none⟩ (.int .i64 ((s1 : Int) + (s2 : Int))) = w4 := ⟨_, rfl⟩
  rw [hw4] at z4
  have HW4 := Lib.hid hw4
  have HWD := Lib.hid hwd
  have Z4 := Lib.hid z4
  have HS1 := Lib.hid hs1
  have HS2 := Lib.hid hs2
  have HRF := Lib.hid rf
  clear z3 zd z4 hw4 hwd hs1 hs2 ht hb3 rf Z2 q3
  go_wp2_with fail
  refine wp_region_plan wd.heap.size (.fin [0, 1, 2, 3, 4, 5, 6, 7, 8, 9, 10, 11, 12, 13, 14, 15, 16, 17, 18, 19, 20, 21, 22, 23, 24]) [25] (by kernel_rfl) (by kernel_rfl) (by kernel_rfl) (fun _ _ _ _ _ h => h) ?_
  rw [HWD.out]
  have t1 : ∀ z : LaterB wd.heap.size wd, z.val.cell? ⟨p, 1, none⟩ = some (.slice (some ⟨b3, 0, none⟩) n c3) := fun z => (z.ext.cell (p := ⟨p, 1, none⟩) hpd).trans r1
  have t2 : ∀ z : LaterB wd.heap.size wd, z.val.cell? ⟨b3, i * 3 + 1, none⟩ = some (.int .i64 (s1 : Int)) := fun z => (z.ext.cell (p := ⟨b3, i * 3 + 1, none⟩) hbd3).trans r2
  have t3 : ∀ z : LaterB wd.heap.size wd, z.val.cell? ⟨b3, k * 3 + 1, none⟩ = some (.int .i64 (s2 : Int)) := fun z => (z.ext.cell (p := ⟨b3, k * 3 + 1, none⟩) hbd3).trans r3
  refine plan_fin (l := ?laAYZ) (t := ?tlAYZ) ?hlaAYZ ?htlAYZ ?_
  case hlaAYZ => simp only [pick, List.getElem?_toArray, List.getElem?_cons_succ, List.getElem?_cons_zero]; rfl
  case htlAYZ => simp only [pick, List.getElem?_toArray, List.getElem?_cons_succ, List.getElem?_cons_zero]; rfl
  repeat (go_big_quiet_step (fail))
  refine wpQuiet_nil ?_
  clear t1 t2 t3 r1 r3
  have rf := HRF.out
  go_wp2_with (first | (rw [HW4.out]) | fail)
  clear rf r2
  have lnS : (((H1.out k).size i (s1 + s2))).blks.length = n := (List.length_set ..).trans HLN1.out
  refine (hdrop_any Z4.out.hm k (by rw [lnS]; omega) (by rw [lnS]; omega) (HDL1.out.trans lnS.symm)).mono ?_
  rintro e w5 ⟨rfl, ht⟩
  obtain ⟨F5, Vb5, Vd5, gl5, cs5, z5⟩ := Z4.out.step ht
  have eJ : (((H1.out k).size i (s1 + s2))).drop k = (H1.out k).join i := by
    show _ = ((H1.out k).size i _).drop (i + 1)
    rw [← HK.out, HS1.out, HS2.out]
  rw [eJ] at z5
  have ok2 : ((H1.out k).join i).Ok := (Hp.Ok.out (i := k) HOK1.out).join (by rw [e3]; omega)
  have fw2 : ((H1.out k).join i).Few N := Hp.Few.out (i := k) HFW1.out
  have ja := join_at (H1.out k) (i := i) (by rw [e3]; omega)
  rw [e3] at ja
  have hgv := HGV.out
  rw [← HK.out] at hgv
  obtain ⟨H2, hH2⟩ : ∃ H2, (H1.out k).join i = H2 := ⟨_, rfl⟩
  rw [hH2] at z5 ok2 fw2 ja hgv
  obtain ⟨b5, c5, rfl, hb5, hnc5, _⟩ := own_nn z5.hm.ob (by omega)
  obtain ⟨n5, hn5⟩ : ∃ n5, H2.blks.length = n5 := ⟨_, rfl⟩
  rw [hn5] at z5 hnc5 ja
  obtain ⟨ja1, ja2, ja3⟩ := ja
  have dl2 : H2.ds.length = n5 := ok2.dl.trans hn5
  have q6 := z5.hm.c1
  have HLN2 := Lib.hid hn5
  have HDL2 := Lib.hid dl2
  have HOK2 := Lib.hid ok2
  have HFW2 := Lib.hid fw2
  have HGV2 := Lib.hid hgv
  have Z5 := Lib.hid z5
  have hi5 : (i : Int) < (n5 : Int) := by omega
  clear z5 ok2 fw2 hgv hH2 hn5 dl2 ht eJ lnS e3 ja2 Z4 HW4 HWD HRF hb5
  go_wp2_with fail
  have hprev : prevF H2.blks i = false := by unfold prevF; rw [decide_eq_false (by omega)]; rfl
  refine (hin_any Z5.out.hm i (by rw [HLN2.out]; omega) (HOK2.out.sz (by rw [HLN2.out]; omega)) (fun d hd => Nat.le_trans (HFW2.out d hd) (by omega))).mono ?_
  rintro e w9 ⟨rfl, ht⟩
  have hto : HT F w p (H.give i) w9 := by
    rw [HGV2.out, giveC_stay hprev]
    exact Z5.out.last ht
  have HTO := Lib.hid hto
  clear hto ht hprev q6
  go_wp2
  go_end0
  exact ⟨rfl, HTO.out⟩

set_option maxHeartbeats 2000000 in
theorem hgive_YU (h : Hm F w p H Vb Vd gl cs) (hok : H.Ok) (N : Nat) (hf : H.Few N) (hN : N ≤ 50000) (i : Nat) (hi : i < H.blks.length) (hE : i + 1 < H.blks.length) (hU : (bkAt H.blks (i + 1)).used = false) (j : Nat) (hZ : i = j + 1) (hP : (bkAt H.blks j).used = true) :
    Calls Tryz.prog 64 #[.pointer (some ⟨p, 0, none⟩), .int .i64 (i : Int)] w fun e w' => e = .returned (.tuple #[]) ∧ HT F w p (H.give i) w' := by
  obtain ⟨b1, c1, rfl, hb1, hnc1, _⟩ := own_nn h.ob (by omega)
  obtain ⟨b2, c2, rfl, hb2, hnc2, _⟩ := own_nn h.od (by rw [hok.dl]; omega)
  have hn512 := hok.n
  have z1 := (Hz.start h).set (a := ⟨b1, i * 3 + 2, none⟩) (u := .bool false) (h.fb b1 rfl) (h.useM rfl hi false)
  have z2 := z1.set (a := ⟨b2, i, none⟩) (u := .slice none 0 0) (h.fd b2 rfl) (z1.hm.wipeM (i := i) rfl)
  obtain ⟨w1, hw1⟩ : ∃ w1, w.setCell ⟨b1, i * 3 + 2, none⟩ (.bool false) = w1 := ⟨_, rfl⟩
  rw [hw1] at z1 z2
  obtain ⟨w2, hw2⟩ : ∃ w2, w1.setCell ⟨b2, i, none⟩ (.slice none 0 0) = w2 := ⟨_, rfl⟩
  rw [hw2] at z2
  have ok1 : ((H.use i false).wipe i).Ok := (hok.use hi false).wipe
  have fw1 : ((H.use i false).wipe i).Few N := hf
  have bl1 : ∀ k, bkAt ((H.use i false).wipe i).blks k = if k = i then { bkAt H.blks i with used := false } else bkAt H.blks k := fun k => bkAt_set H.blks i k _ hi
  have ln1 : ((H.use i false).wipe i).blks.length = H.blks.length := List.length_set ..
  have dl1 : ((H.use i false).wipe i).ds.length = H.blks.length := ok1.dl.trans ln1
  have hnx : nextF ((H.use i false).wipe i).blks i = true := by unfold nextF; rw [ln1, bl1, if_neg (by omega), hU, decide_eq_true hE]; rfl
  have hgv := give_join hnx
  clear hnx
  obtain ⟨H1, hH1⟩ : ∃ H1, (H.use i false).wipe i = H1 := ⟨_, rfl⟩
  rw [hH1] at hgv z2 ok1 fw1 bl1 ln1 dl1
  obtain ⟨n, hn⟩ : ∃ n, H.blks.length = n := ⟨_, rfl⟩
  have u2 := bl1 (i + 1)
  rw [if_neg (by omega)] at u2
  have hdl0 : H.ds.length = n := hok.dl.trans hn
  rw [hn] at ln1 dl1 hi hnc1 hE hn512
  have q1 := h.c1
  rw [hn] at q1
  have f1 := own_thaw h.ob (i * 3 + 2)
  have q2 : w1.cell? ⟨p, 2, none⟩ = some (.slice (some ⟨b2, 0, none⟩) n c2) := by have e := z1.hm.c2; rw [hdl0] at e; exact e
  have f2 := own_thaw z1.hm.od i
  obtain ⟨_, q1b⟩ : ∃ u, w.cell? ⟨b1, i * 3 + 2, none⟩ = some u := ⟨_, (h.at_n rfl (by omega)).2.2⟩
  obtain ⟨_, q2b, _⟩ := own_cell1 z1.hm.od (j := i) (by show i < H.ds.length; omega)
  have q3 : w2.cell? ⟨p, 1, none⟩ = some (.slice (some ⟨b1, 0, none⟩) n c1) := by have e := z2.hm.c1; rw [hn] at e; exact e
  rw [hn, hdl0] at z2
  obtain ⟨k, hk⟩ : ∃ k : Nat, (i : Int) + 1 = (k : Int) := ⟨i + 1, by omega⟩
  have HK : Hid (k = i + 1) := (show _ = _ by omega)
  have q4 := (z2.hm.at_n ln1 (i := i + 1) (by omega)).2.2
  rw [u2, hU, ← HK.out] at q4
  have HW1 := Lib.hid hw1
  have HW2 := Lib.hid hw2
  have hin : (i : Int) < (n : Int) := by omega
  have hie : (i : Int) + 1 < (n : Int) := by omega
  have hiz : 0 < (i : Int) := by omega
  have hji : j < i := by omega
  have hjz : (i : Int) - 1 = (j : Int) := by omega
  have bj := bl1 j
  rw [if_neg (by omega)] at bj
  have HZ := Lib.hid hZ
  have HGV := Lib.hid hgv
  have HOK1 := Lib.hid ok1
  have HFW1 := Lib.hid fw1
  have HBL1 := Lib.hid bl1
  have HLN1 := Lib.hid ln1
  have HDL1 := Lib.hid dl1
  have HN := Lib.hid hn
  have Z2 := Lib.hid z2
  have HBJ := Lib.hid bj
  have HP := Lib.hid hP
  clear bj hP
  have HU2 := Lib.hid u2
  have HU := Lib.hid hU
  clear u2 hU
  clear h hok hf hb1 hb2 hw1 hw2 hH1 hZ hgv ok1 fw1 bl1 ln1 dl1 hn z1 z2 hE hdl0
  go_enter Tryz.func64, Tryz.ntmps64
  go_wp2_with (first | (rw [HW1.out]) | (rw [HW2.out]) | fail)
  clear q1 q2 q4 f1 f2 q1b q2b HW1 HW2
  refine (hout_any Z2.out.hm k (by rw [HLN1.out]; omega) (HOK1.out.sz (by rw [HLN1.out]; omega)) (fun d hd => Nat.le_trans (HFW1.out d hd) (by omega))).mono ?_
  rintro e w3 ⟨rfl, ht⟩
  obtain ⟨F3, Vb3, Vd3, gl3, cs3, z3⟩ := Z2.out.step ht
  obtain ⟨b3, c3, rfl, hb3, hnc3, _⟩ := own_nn z3.hm.ob (by show 0 < H1.blks.length; rw [HLN1.out]; omega)
  have e3 : (H1.out k).blks.length = n := HLN1.out
  rw [e3] at z3 hnc3
  obtain ⟨wd, hwd⟩ : ∃ wd, w3.drew = wd := ⟨_, rfl⟩
  have hbd : Below w3.heap.size w3 wd := by rw [← hwd]; exact (Below.refl _ _).drew
  have zd := z3.below hbd
  have r1 := zd.hm.c1
  have r2 := (zd.hm.at_n e3 (i := i) hi).2.1
  have r3 := (zd.hm.at_n e3 (i := k) (by omega)).2.1
  have rf := own_thaw zd.hm.ob (i * 3 + 1)
  have hpd := zd.hm.lt
  have hbd3 : b3 < wd.heap.size := own_lt zd.hm.ob rfl
  obtain ⟨s1, hs1⟩ : ∃ s1, (bkAt (H1.out k).blks i).size = s1 := ⟨_, rfl⟩
  obtain ⟨s2, hs2⟩ : ∃ s2, (bkAt (H1.out k).blks k).size = s2 := ⟨_, rfl⟩
  rw [hs1] at r2
  rw [hs2] at r3
  have z4 := zd.set (a := ⟨b3, i * 3 + 1, none⟩) (u := .int .i64 ((s1 + s2 : Nat) : Int)) (zd.hm.fb b3 rfl) (zd.hm.sizeM (by rw [e3]) (by rw [e3]; exact hi) (s1 + s2))
  rw [Int.natCast_add] at z4
  have hs12 : s1 + s2 ≤ 16384 := by
    have e := (HOK1.out.two (i := i) (by rw [HLN1.out]; omega)).2
    rw [← HK.out] at e
    rw [← hs1, ← hs2]; exact e
  obtain ⟨w4, hw4⟩ : ∃ w4, wd.setCell ⟨b3, i * 3 + 1, none⟩ (.int .i64 ((s1 : Int) + (s2 : Int))) = w4 := ⟨_, rfl⟩
  rw [hw4] at z4
  have HW4 := Lib.hid hw4
  have HWD := Lib.hid hwd
  have Z4 := Lib.hid z4
  have HS1 := Lib.hid hs1
  have HS2 := Lib.hid hs2
  have HRF := Lib.hid rf
  clear z3 zd z4 hw4 hwd hs1 hs2 ht hb3 rf Z2 q3
  go_wp2_with fail
  refine wp_region_plan wd.heap.size (.fin [0, 1, 2, 3, 4, 5, 6, 7, 8, 9, 10, 11, 12, 13, 14, 15, 16, 17, 18, 19, 20, 21, 22, 23, 24]) [25] (by kernel_rfl) (by kernel_rfl) (by kernel_rfl) (fun _ _ _ _ _ h => h) ?_
  rw [HWD.out]
  have t1 : ∀ z : LaterB wd.heap.size wd, z.val.cell? ⟨p, 1, none⟩ = some (.slice (some ⟨b3, 0, none⟩) n c3) := fun z => (z.ext.cell (p := ⟨p, 1, none⟩) hpd).trans r1
  have t2 : ∀ z : LaterB wd.heap.size wd, z.val.cell? ⟨b3, i * 3 + 1, none⟩ = some (.int .i64 (s1 : Int)) := fun z => (z.ext.cell (p := ⟨b3, i * 3 + 1, none⟩) hbd3).trans r2
  have t3 : ∀ z : LaterB wd.heap.size wd, z.val.cell? ⟨b3, k * 3 + 1, none⟩ = some (.int .i64 (s2 : Int)) := fun z => (z.ext.cell (p := ⟨b3, k * 3 + 1, none⟩) hbd3).trans r3
  refine plan_fin (l := ?laAYU) (t := ?tlAYU) ?hlaAYU ?htlAYU ?_
  case hlaAYU => simp only [pick, List.getElem?_toArray, List.getElem?_cons_succ, List.getElem?_cons_zero]; rfl
  case htlAYU => simp only [pick, List.getElem?_toArray, List.getElem?_cons_succ, List.getElem?_cons_zero]; rfl
  repeat (go_big_quiet_step (fail))
  refine wpQuiet_nil ?_
  clear t1 t2 t3 r1 r3
  have rf := HRF.out
  go_wp2_with (first | (rw [HW4.out]) | fail)
  clear rf r2
  have lnS : (((H1.out k).size i (s1 + s2))).blks.length = n := (List.length_set ..).trans HLN1.out
  refine (hdrop_any Z4.out.hm k (by rw [lnS]; omega) (by rw [lnS]; omega) (HDL1.out.trans lnS.symm)).mono ?_
  rintro e w5 ⟨rfl, ht⟩
  obtain ⟨F5, Vb5, Vd5, gl5, cs5, z5⟩ := Z4.out.step ht
  have eJ : (((H1.out k).size i (s1 + s2))).drop k = (H1.out k).join i := by
    show _ = ((H1.out k).size i _).drop (i + 1)
    rw [← HK.out, HS1.out, HS2.out]
  rw [eJ] at z5
  have ok2 : ((H1.out k).join i).Ok := (Hp.Ok.out (i := k) HOK1.out).join (by rw [e3]; omega)
  have fw2 : ((H1.out k).join i).Few N := Hp.Few.out (i := k) HFW1.out
  have ja := join_at (H1.out k) (i := i) (by rw [e3]; omega)
  rw [e3] at ja
  have hgv := HGV.out
  rw [← HK.out] at hgv
  have bj2 : bkAt ((H1.out k).join i).blks j = bkAt H.blks j := by
    rw [join_blks (H1.out k) (i := i) (by rw [e3]; omega)]
    unfold bkAt
    rw [List.getD_eq_getElem?_getD, List.getElem?_append_left (by rw [List.length_take, e3]; omega), List.getElem?_take_of_lt hji, ← List.getD_eq_getElem?_getD]
    exact HBJ.out
  have HBJ2 := Lib.hid bj2
  clear bj2
  obtain ⟨H2, hH2⟩ : ∃ H2, (H1.out k).join i = H2 := ⟨_, rfl⟩
  rw [hH2] at z5 ok2 fw2 ja hgv
  rw [hH2] at HBJ2
  obtain ⟨b5, c5, rfl, hb5, hnc5, _⟩ := own_nn z5.hm.ob (by omega)
  obtain ⟨n5, hn5⟩ : ∃ n5, H2.blks.length = n5 := ⟨_, rfl⟩
  rw [hn5] at z5 hnc5 ja
  obtain ⟨ja1, ja2, ja3⟩ := ja
  have dl2 : H2.ds.length = n5 := ok2.dl.trans hn5
  have q6 := z5.hm.c1
  have HLN2 := Lib.hid hn5
  have HDL2 := Lib.hid dl2
  have HOK2 := Lib.hid ok2
  have HFW2 := Lib.hid fw2
  have HGV2 := Lib.hid hgv
  have Z5 := Lib.hid z5
  have hi5 : (i : Int) < (n5 : Int) := by omega
  clear z5 ok2 fw2 hgv hH2 hn5 dl2 ht eJ lnS e3 ja2 Z4 HW4 HWD HRF hb5
  have q5 := (Z5.out.hm.at_n HLN2.out (i := j) (by omega)).2.2
  rw [HBJ2.out, HP.out] at q5
  go_wp2_with fail
  have hprev : prevF H2.blks i = false := by unfold prevF; rw [show i - 1 = j by omega, HBJ2.out, HP.out, Bool.not_true, Bool.and_false]
  refine (hin_any Z5.out.hm i (by rw [HLN2.out]; omega) (HOK2.out.sz (by rw [HLN2.out]; omega)) (fun d hd => Nat.le_trans (HFW2.out d hd) (by omega))).mono ?_
  rintro e w9 ⟨rfl, ht⟩
  have hto : HT F w p (H.give i) w9 := by
    rw [HGV2.out, giveC_stay hprev]
    exact Z5.out.last ht
  have HTO := Lib.hid hto
  clear hto ht hprev q6
  go_wp2
  go_end0
  exact ⟨rfl, HTO.out⟩

set_option maxHeartbeats 2000000 in
theorem hgive_YY (h : Hm F w p H Vb Vd gl cs) (hok : H.Ok) (N : Nat) (hf : H.Few N) (hN : N ≤ 50000) (i : Nat) (hi : i < H.blks.length) (hE : i + 1 < H.blks.length) (hU : (bkAt H.blks (i + 1)).used = false) (j : Nat) (hZ : i = j + 1) (hP : (bkAt H.blks j).used = false) :
    Calls Tryz.prog 64 #[.pointer (some ⟨p, 0, none⟩), .int .i64 (i : Int)] w fun e w' => e = .returned (.tuple #[]) ∧ HT F w p (H.give i) w' := by
  obtain ⟨b1, c1, rfl, hb1, hnc1, _⟩ := own_nn h.ob (by omega)
  obtain ⟨b2, c2, rfl, hb2, hnc2, _⟩ := own_nn h.od (by rw [hok.dl]; omega)
  have hn512 := hok.n
  have z1 := (Hz.start h).set (a := ⟨b1, i * 3 + 2, none⟩) (u := .bool false) (h.fb b1 rfl) (h.useM rfl hi false)
  have z2 := z1.set (a := ⟨b2, i, none⟩) (u := .slice none 0 0) (h.fd b2 rfl) (z1.hm.wipeM (i := i) rfl)
  obtain ⟨w1, hw1⟩ : ∃ w1, w.setCell ⟨b1, i * 3 + 2, none⟩ (.bool false) = w1 := ⟨_, rfl⟩
  rw [hw1] at z1 z2
  obtain ⟨w2, hw2⟩ : ∃ w2, w1.setCell ⟨b2, i, none⟩ (.slice none 0 0) = w2 := ⟨_, rfl⟩
  rw [hw2] at z2
  have ok1 : ((H.use i false).wipe i).Ok := (hok.use hi false).wipe
  have fw1 : ((H.use i false).wipe i).Few N := hf
  have bl1 : ∀ k, bkAt ((H.use i false).wipe i).blks k = if k = i then { bkAt H.blks i with used := false } else bkAt H.blks k := fun k => bkAt_set H.blks i k _ hi
  have ln1 : ((H.use i false).wipe i).blks.length = H.blks.length := List.length_set ..
  have dl1 : ((H.use i false).wipe i).ds.length = H.blks.length := ok1.dl.trans ln1
  have hnx : nextF ((H.use i false).wipe i).blks i = true := by unfold nextF; rw [ln1, bl1, if_neg (by omega), hU, decide_eq_true hE]; rfl
  have hgv := give_join hnx
  clear hnx
  obtain ⟨H1, hH1⟩ : ∃ H1, (H.use i false).wipe i = H1 := ⟨_, rfl⟩
  rw [hH1] at hgv z2 ok1 fw1 bl1 ln1 dl1
  obtain ⟨n, hn⟩ : ∃ n, H.blks.length = n := ⟨_, rfl⟩
  have u2 := bl1 (i + 1)
  rw [if_neg (by omega)] at u2
  have hdl0 : H.ds.length = n := hok.dl.trans hn
  rw [hn] at ln1 dl1 hi hnc1 hE hn512
  have q1 := h.c1
  rw [hn] at q1
  have f1 := own_thaw h.ob (i * 3 + 2)
  have q2 : w1.cell? ⟨p, 2, none⟩ = some (.slice (some ⟨b2, 0, none⟩) n c2) := by have e := z1.hm.c2; rw [hdl0] at e; exact e
  have f2 := own_thaw z1.hm.od i
  obtain ⟨_, q1b⟩ : ∃ u, w.cell? ⟨b1, i * 3 + 2, none⟩ = some u := ⟨_, (h.at_n rfl (by omega)).2.2⟩
  obtain ⟨_, q2b, _⟩ := own_cell1 z1.hm.od (j := i) (by show i < H.ds.length; omega)
  have q3 : w2.cell? ⟨p, 1, none⟩ = some (.slice (some ⟨b1, 0, none⟩) n c1) := by have e := z2.hm.c1; rw [hn] at e; exact e
  rw [hn, hdl0] at z2
  obtain ⟨k, hk⟩ : ∃ k : Nat, (i : Int) + 1 = (k : Int) := ⟨i + 1, by omega⟩
  have HK : Hid (k = i + 1) := (show _ = _ by omega)
  have q4 := (z2.hm.at_n ln1 (i := i + 1) (by omega)).2.2
  rw [u2, hU, ← HK.out] at q4
  have HW1 := Lib.hid hw1
  have HW2 := Lib.hid hw2
  have hin : (i : Int) < (n : Int) := by omega
  have hie : (i : Int) + 1 < (n : Int) := by omega
  have hiz : 0 < (i : Int) := by omega
  have hji : j < i := by omega
  have hjz : (i : Int) - 1 = (j : Int) := by omega
  have bj := bl1 j
  rw [if_neg (by omega)] at bj
  have HZ := Lib.hid hZ
  have HGV := Lib.hid hgv
  have HOK1 := Lib.hid ok1
  have HFW1 := Lib.hid fw1
  have HBL1 := Lib.hid bl1
  have HLN1 := Lib.hid ln1
  have HDL1 := Lib.hid dl1
  have HN := Lib.hid hn
  have Z2 := Lib.hid z2
  have HBJ := Lib.hid bj
  have HP := Lib.hid hP
  clear bj hP
  have HU2 := Lib.hid u2
  have HU := Lib.hid hU
  clear u2 hU
  clear h hok hf hb1 hb2 hw1 hw2 hH1 hZ hgv ok1 fw1 bl1 ln1 dl1 hn z1 z2 hE hdl0
  go_enter Tryz.func64, Tryz.ntmps64
  go_wp2_with (first | (rw [HW1.out]) | (rw [HW2.out]) | fail)
  clear q1 q2 q4 f1 f2 q1b q2b HW1 HW2
  refine (hout_any Z2.out.hm k (by rw [HLN1.out]; omega) (HOK1.out.sz (by rw [HLN1.out]; omega)) (fun d hd => Nat.le_trans (HFW1.out d hd) (by omega))).mono ?_
  rintro e w3 ⟨rfl, ht⟩
  obtain ⟨F3, Vb3, Vd3, gl3, cs3, z3⟩ := Z2.out.step ht
  obtain ⟨b3, c3, rfl, hb3, hnc3, _⟩ := own_nn z3.hm.ob (by show 0 < H1.blks.length; rw [HLN1.out]; omega)
  have e3 : (H1.out k).blks.length = n := HLN1.out
  rw [e3] at z3 hnc3
  obtain ⟨wd, hwd⟩ : ∃ wd, w3.drew = wd := ⟨_, rfl⟩
  have hbd : Below w3.heap.size w3 wd := by rw [← hwd]; exact (Below.refl _ _).drew
  have zd := z3.below hbd
  have r1 := zd.hm.c1
  have r2 := (zd.hm.at_n e3 (i := i) hi).2.1
  have r3 := (zd.hm.at_n e3 (i := k) (by omega)).2.1
  have rf := own_thaw zd.hm.ob (i * 3 + 1)
  have hpd := zd.hm.lt
  have hbd3 : b3 < wd.heap.size := own_lt zd.hm.ob rfl
  obtain ⟨s1, hs1⟩ : ∃ s1, (bkAt (H1.out k).blks i).size = s1 := ⟨_, rfl⟩
  obtain ⟨s2, hs2⟩ : ∃ s2, (bkAt (H1.out k).blks k).size = s2 := ⟨_, rfl⟩
  rw [hs1] at r2
  rw [hs2] at r3
  have z4 := zd.set (a := ⟨b3, i * 3 + 1, none⟩) (u := .int .i64 ((s1 + s2 : Nat) : Int)) (zd.hm.fb b3 rfl) (zd.hm.sizeM (by rw [e3]) (by rw [e3]; exact hi) (s1 + s2))
  rw [Int.natCast_add] at z4
  have hs12 : s1 + s2 ≤ 16384 := by
    have e := (HOK1.out.two (i := i) (by rw [HLN1.out]; omega)).2
    rw [← HK.out] at e
    rw [← hs1, ← hs2]; exact e
  obtain ⟨w4, hw4⟩ : ∃ w4, wd.setCell ⟨b3, i * 3 + 1, none⟩ (.int .i64 ((s1 : Int) + (s2 : Int))) = w4 := ⟨_, rfl⟩
  rw [hw4] at z4
  have HW4 := Lib.hid hw4
  have HWD := Lib.hid hwd
  have Z4 := Lib.hid z4
  have HS1 := Lib.hid hs1
  have HS2 := Lib.hid hs2
  have HRF := Lib.hid rf
  clear z3 zd z4 hw4 hwd hs1 hs2 ht hb3 rf Z2 q3
  go_wp2_with fail
  refine wp_region_plan wd.heap.size (.fin [0, 1, 2, 3, 4, 5, 6, 7, 8, 9, 10, 11, 12, 13, 14, 15, 16, 17, 18, 19, 20, 21, 22, 23, 24]) [25] (by kernel_rfl) (by kernel_rfl) (by kernel_rfl) (fun _ _ _ _ _ h => h) ?_
  rw [HWD.out]
  have t1 : ∀ z : LaterB wd.heap.size wd, z.val.cell? ⟨p, 1, none⟩ = some (.slice (some ⟨b3, 0, none⟩) n c3) := fun z => (z.ext.cell (p := ⟨p, 1, none⟩) hpd).trans r1
  have t2 : ∀ z : LaterB wd.heap.size wd, z.val.cell? ⟨b3, i * 3 + 1, none⟩ = some (.int .i64 (s1 : Int)) := fun z => (z.ext.cell (p := ⟨b3, i * 3 + 1, none⟩) hbd3).trans r2
  have t3 : ∀ z : LaterB wd.heap.size wd, z.val.cell? ⟨b3, k * 3 + 1, none⟩ = some (.int .i64 (s2 : Int)) := fun z => (z.ext.cell (p := ⟨b3, k * 3 + 1, none⟩) hbd3).trans r3
  refine plan_fin (l := ?laAYY) (t := ?tlAYY) ?hlaAYY ?htlAYY ?_
  case hlaAYY => simp only [pick, List.getElem?_toArray, List.getElem?_cons_succ, List.getElem?_cons_zero]; rfl
  case htlAYY => simp only [pick, List.getElem?_toArray, List.getElem?_cons_succ, List.getElem?_cons_zero]; rfl
  repeat (go_big_quiet_step (fail))
  refine wpQuiet_nil ?_
  clear t1 t2 t3 r1 r3
  have rf := HRF.out
  go_wp2_with (first | (rw [HW4.out]) | fail)
  clear rf r2
  have lnS : (((H1.out k).size i (s1 + s2))).blks.length = n := (List.length_set ..).trans HLN1.out
  refine (hdrop_any Z4.out.hm k (by rw [lnS]; omega) (by rw [lnS]; omega) (HDL1.out.trans lnS.symm)).mono ?_
  rintro e w5 ⟨rfl, ht⟩
  obtain ⟨F5, Vb5, Vd5, gl5, cs5, z5⟩ := Z4.out.step ht
  have eJ : (((H1.out k).size i (s1 + s2))).drop k = (H1.out k).join i := by
    show _ = ((H1.out k).size i _).drop (i + 1)
    rw [← HK.out, HS1.out, HS2.out]
  rw [eJ] at z5
  have ok2 : ((H1.out k).join i).Ok := (Hp.Ok.out (i := k) HOK1.out).join (by rw [e3]; omega)
  have fw2 : ((H1.out k).join i).Few N := Hp.Few.out (i := k) HFW1.out
  have ja := join_at (H1.out k) (i := i) (by rw [e3]; omega)
  rw [e3] at ja
  have hgv := HGV.out
  rw [← HK.out] at hgv
  have bj2 : bkAt ((H1.out k).join i).blks j = bkAt H.blks j := by
    rw [join_blks (H1.out k) (i := i) (by rw [e3]; omega)]
    unfold bkAt
    rw [List.getD_eq_getElem?_getD, List.getElem?_append_left (by rw [List.length_take, e3]; omega), List.getElem?_take_of_lt hji, ← List.getD_eq_getElem?_getD]
    exact HBJ.out
  have HBJ2 := Lib.hid bj2
  clear bj2
  obtain ⟨H2, hH2⟩ : ∃ H2, (H1.out k).join i = H2 := ⟨_, rfl⟩
  rw [hH2] at z5 ok2 fw2 ja hgv
  rw [hH2] at HBJ2
  obtain ⟨b5, c5, rfl, hb5, hnc5, _⟩ := own_nn z5.hm.ob (by omega)
  obtain ⟨n5, hn5⟩ : ∃ n5, H2.blks.length = n5 := ⟨_, rfl⟩
  rw [hn5] at z5 hnc5 ja
  obtain ⟨ja1, ja2, ja3⟩ := ja
  have dl2 : H2.ds.length = n5 := ok2.dl.trans hn5
  have q6 := z5.hm.c1
  have HLN2 := Lib.hid hn5
  have HDL2 := Lib.hid dl2
  have HOK2 := Lib.hid ok2
  have HFW2 := Lib.hid fw2
  have HGV2 := Lib.hid hgv
  have Z5 := Lib.hid z5
  have hi5 : (i : Int) < (n5 : Int) := by omega
  clear z5 ok2 fw2 hgv hH2 hn5 dl2 ht eJ lnS e3 ja2 Z4 HW4 HWD HRF hb5
  have q5 := (Z5.out.hm.at_n HLN2.out (i := j) (by omega)).2.2
  rw [HBJ2.out, HP.out] at q5
  go_wp2_with fail
  have hprev : prevF H2.blks i = true := by unfold prevF; rw [show i - 1 = j by omega, HBJ2.out, HP.out, decide_eq_true (by omega)]; rfl
  clear q5
  refine (hout_any Z5.out.hm j (by rw [HLN2.out]; omega) (HOK2.out.sz (by rw [HLN2.out]; omega)) (fun d hd => Nat.le_trans (HFW2.out d hd) (by omega))).mono ?_
  rintro e w6 ⟨rfl, ht⟩
  obtain ⟨F6, Vb6, Vd6, gl6, cs6, z6⟩ := Z5.out.step ht
  obtain ⟨b6, c6, rfl, hb6, hnc6, _⟩ := own_nn z6.hm.ob (by show 0 < H2.blks.length; rw [HLN2.out]; omega)
  have e6 : (H2.out j).blks.length = n5 := HLN2.out
  rw [e6] at z6 hnc6
  obtain ⟨wx, hwx⟩ : ∃ wx, w6.drew = wx := ⟨_, rfl⟩
  have hbx : Below w6.heap.size w6 wx := by rw [← hwx]; exact (Below.refl _ _).drew
  have zx := z6.below hbx
  have r1 := zx.hm.c1
  have r2 := (zx.hm.at_n e6 (i := j) (by omega)).2.1
  have r3 := (zx.hm.at_n e6 (i := i) (by omega)).2.1
  have rf := own_thaw zx.hm.ob (j * 3 + 1)
  have hpx := zx.hm.lt
  have hbx6 : b6 < wx.heap.size := own_lt zx.hm.ob rfl
  obtain ⟨s5, hs5⟩ : ∃ s5, (bkAt (H2.out j).blks j).size = s5 := ⟨_, rfl⟩
  obtain ⟨s6, hs6⟩ : ∃ s6, (bkAt (H2.out j).blks i).size = s6 := ⟨_, rfl⟩
  rw [hs5] at r2
  rw [hs6] at r3
  have z7 := zx.set (a := ⟨b6, j * 3 + 1, none⟩) (u := .int .i64 ((s5 + s6 : Nat) : Int)) (zx.hm.fb b6 rfl) (zx.hm.sizeM (by rw [e6]) (by rw [e6]; omega) (s5 + s6))
  rw [Int.natCast_add] at z7
  have hs56 : s5 + s6 ≤ 16384 := by
    have e := (HOK2.out.two (i := j) (by rw [HLN2.out]; omega)).2
    rw [← HZ.out] at e
    rw [← hs5, ← hs6]; exact e
  obtain ⟨w7, hw7⟩ : ∃ w7, wx.setCell ⟨b6, j * 3 + 1, none⟩ (.int .i64 ((s5 : Int) + (s6 : Int))) = w7 := ⟨_, rfl⟩
  rw [hw7] at z7
  have HW7 := Lib.hid hw7
  have HWX := Lib.hid hwx
  have Z7 := Lib.hid z7
  have HS5 := Lib.hid hs5
  have HS6 := Lib.hid hs6
  have HRX := Lib.hid rf
  have HPV := Lib.hid hprev
  clear z6 zx z7 hw7 hwx hs5 hs6 ht hb6 rf hprev q6
  go_wp2_with fail
  refine wp_region_plan wx.heap.size (.fin [0, 1, 2, 3, 4, 5, 6, 7, 8, 9, 10, 11, 12, 13, 14, 15, 16, 17, 18, 19, 20, 21, 22, 23, 24, 25]) [26] (by kernel_rfl) (by kernel_rfl) (by kernel_rfl) (fun _ _ _ _ _ h => h) ?_
  rw [HWX.out]
  have t1 : ∀ z : LaterB wx.heap.size wx, z.val.cell? ⟨p, 1, none⟩ = some (.slice (some ⟨b6, 0, none⟩) n5 c6) := fun z => (z.ext.cell (p := ⟨p, 1, none⟩) hpx).trans r1
  have t2 : ∀ z : LaterB wx.heap.size wx, z.val.cell? ⟨b6, j * 3 + 1, none⟩ = some (.int .i64 (s5 : Int)) := fun z => (z.ext.cell (p := ⟨b6, j * 3 + 1, none⟩) hbx6).trans r2
  have t3 : ∀ z : LaterB wx.heap.size wx, z.val.cell? ⟨b6, i * 3 + 1, none⟩ = some (.int .i64 (s6 : Int)) := fun z => (z.ext.cell (p := ⟨b6, i * 3 + 1, none⟩) hbx6).trans r3
  refine plan_fin (l := ?laBYY) (t := ?tlBYY) ?hlaBYY ?htlBYY ?_
  case hlaBYY => simp only [pick, List.getElem?_toArray, List.getElem?_cons_succ, List.getElem?_cons_zero]; rfl
  case htlBYY => simp only [pick, List.getElem?_toArray, List.getElem?_cons_succ, List.getElem?_cons_zero]; rfl
  repeat (go_big_quiet_step (fail))
  refine wpQuiet_nil ?_
  clear t1 t2 t3 r1 r3
  have rf := HRX.out
  go_wp2_with (first | (rw [HW7.out]) | fail)
  clear rf r2
  have lnT : (((H2.out j).size j (s5 + s6))).blks.length = n5 := (List.length_set ..).trans HLN2.out
  refine (hdrop_any Z7.out.hm i (by rw [lnT]; omega) (by rw [lnT]; omega) (HDL2.out.trans lnT.symm)).mono ?_
  rintro e w8 ⟨rfl, ht⟩
  obtain ⟨F8, Vb8, Vd8, gl8, cs8, z8⟩ := Z7.out.step ht
  have eK : (((H2.out j).size j (s5 + s6))).drop i = (H2.out j).join j := by
    show _ = ((H2.out j).size j _).drop (j + 1)
    rw [← HZ.out, HS5.out, HS6.out]
  rw [eK] at z8
  have ok3 : ((H2.out j).join j).Ok := (Hp.Ok.out (i := j) HOK2.out).join (by rw [e6]; omega)
  have fw3 : ((H2.out j).join j).Few N := Hp.Few.out (i := j) HFW2.out
  have jb := (join_at (H2.out j) (i := j) (by rw [e6]; omega)).1
  have hg3 := giveC_join HPV.out
  rw [show i - 1 = j by omega] at hg3
  obtain ⟨H3, hH3⟩ : ∃ H3, (H2.out j).join j = H3 := ⟨_, rfl⟩
  rw [hH3] at z8 ok3 fw3 jb hg3
  have hgf := HGV2.out
  rw [hg3] at hgf
  have HGF := Lib.hid hgf
  have HOK3 := Lib.hid ok3
  have HFW3 := Lib.hid fw3
  have HJB := Lib.hid jb
  have Z8 := Lib.hid z8
  clear hgf hg3 ok3 fw3 jb z8 hH3 ht eK lnT e6 Z7 HW7 HWX HRX
  go_wp2_with fail
  refine (hin_any Z8.out.hm j HJB.out (HOK3.out.sz HJB.out) (fun d hd => Nat.le_trans (HFW3.out d hd) (by omega))).mono ?_
  rintro e w9 ⟨rfl, ht⟩
  have hto : HT F w p (H.give i) w9 := by
    rw [HGF.out]
    exact Z8.out.last ht
  have HTO := Lib.hid hto
  clear hto ht
  go_wp2
  go_end0
  exact ⟨rfl, HTO.out⟩

theorem hgive_any (h : Hm F w p H Vb Vd gl cs) (hok : H.Ok) (N : Nat) (hf : H.Few N) (hN : N ≤ 50000) (i : Nat) (hi : i < H.blks.length) :
    Calls Tryz.prog 64 #[.pointer (some ⟨p, 0, none⟩), .int .i64 (i : Int)] w fun e w' => e = .returned (.tuple #[]) ∧ HT F w p (H.give i) w' := by
  obtain ⟨j, hj⟩ : ∃ j, i = 0 ∨ i = j + 1 := ⟨i - 1, by omega⟩
  rcases Nat.lt_or_ge (i + 1) H.blks.length with hE | hE
  · cases hU : (bkAt H.blks (i + 1)).used
    · rcases hj with hZ | hZ
      · exact hgive_YZ h hok N hf hN i hi hE hU hZ
      · cases hP : (bkAt H.blks j).used
        · exact hgive_YY h hok N hf hN i hi hE hU j hZ hP
        · exact hgive_YU h hok N hf hN i hi hE hU j hZ hP
    · rcases hj with hZ | hZ
      · exact hgive_UZ h hok N hf hN i hi hE hU hZ
      · cases hP : (bkAt H.blks j).used
        · exact hgive_UY h hok N hf hN i hi hE hU j hZ hP
        · exact hgive_UU h hok N hf hN i hi hE hU j hZ hP
  · rcases hj with hZ | hZ
    · exact hgive_EZ h hok N hf hN i hi hE hZ
    · cases hP : (bkAt H.blks j).used
      · exact hgive_EY h hok N hf hN i hi hE j hZ hP
      · exact hgive_EU h hok N hf hN i hi hE j hZ hP
end
end Go.Proofs.YtbemaoncakcnjaaGreat
