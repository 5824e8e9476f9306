/- Texts of mine, joined: Plan, TailS, Clo, Ref1, Tag1, BlkM, WordM, ListM, BitM, ListM2, TileM, RebM, CheckM. -/
import Derived.Laws.AppendOwnNone
import Derived.Laws.BitsAllLaws
import Derived.Test.YtbldlidpapdkbaaGreatDoorM1

/- A region that draws its order, with places at which one of two operations that are no readers may come up; an append to a row of this call's own as such an operation. No program in sight. -/
namespace Go.Proofs.YtbldlidpapdkbaaGreatDoor
open Go.RowKit

/-- How a region may come up: readers first; then one operation, or either of two; a tail in the end. -/
inductive PT where
  | fin (last : List Nat)
  | one (rs : List Nat) (i : Nat) (t : PT)
  | two (rs : List Nat) (i1 : Nat) (t1 : PT) (i2 : Nat) (t2 : PT)

def PT.ok (ops : Array Oper) (T : List Nat) : PT → Array Bool → Bool
  | .fin last, l => segT ops T l last && seqT ops (mark l last) T
  | .one rs i t, l => segT ops T l rs && (Region.ready .any ops (mark l rs) == [i] && !mv ops i && t.ok ops T ((mark l rs).setIfInBounds i true))
  | .two rs i1 t1 i2 t2, l => segT ops T l rs && (Region.ready .any ops (mark l rs) == [i1, i2] && (!mv ops i1 && !mv ops i2) && (t1.ok ops T ((mark l rs).setIfInBounds i1 true) && t2.ok ops T ((mark l rs).setIfInBounds i2 true)))
def PT.len (T : List Nat) : PT → Nat
  | .fin last => T.length + last.length
  | .one rs _ t => 1 + t.len T + rs.length
  | .two rs _ t1 _ _ => 1 + t1.len T + rs.length
/-- Both ways are as long. -/
def PT.even (T : List Nat) : PT → Bool
  | .fin _ => true
  | .one _ _ t => t.even T
  | .two _ _ t1 _ t2 => t1.len T == t2.len T && (t1.even T && t2.even T)
def PT.wp (P : Program) (ops : Array Oper) (Q : Exit → Act → World → Prop) (T : List Nat) : PT → Nat → Act → World → Prop
  | .fin last, B, a, w => wpQuiet P ops (AfterB B w) (fun a' => wpList P ops Q (pick ops T) a' w) (pick ops last) a
  | .one rs i t, B, a, w => wpQuiet P ops (AfterB B w) (fun a' => wpOp P ops Q i (fun a'' w'' => Below B w w'' ∧ ∃ B', B ≤ B' ∧ t.wp P ops Q T B' a'' w'') a' w) (pick ops rs) a
  | .two rs i1 t1 i2 t2, B, a, w => wpQuiet P ops (AfterB B w) (fun a' => wpOp P ops Q i1 (fun a'' w'' => Below B w w'' ∧ ∃ B', B ≤ B' ∧ t1.wp P ops Q T B' a'' w'') a' w ∧ wpOp P ops Q i2 (fun a'' w'' => Below B w w'' ∧ ∃ B', B ≤ B' ∧ t2.wp P ops Q T B' a'' w'') a' w) (pick ops rs) a

section
variable {P : Program} {ops : Array Oper} {Q : Exit → Act → World → Prop} {T : List Nat}
theorem PT.any (hsel : Region.noSelect ops = true) (hQ : ∀ c a t v w, Q (.panic c) (Act.put a (some t) v) w → Q (.panic c) a w) :
    ∀ (p : PT) (l : Array Bool) (B : Nat) (a : Act) (w : World), p.even T = true → p.ok ops T l = true → p.wp P ops Q T B a w → wpAnyT P ops Q (Below B w) T (p.len T) l a w
  | .fin last, l, B, a, w, _, hc, h => by
    simp only [PT.ok, Bool.and_eq_true] at hc
    exact segT_any hsel hQ B w _ T.length last l a hc.1 h (fun a' ha => seqT_any (fun _ h => h) T _ a' w (fun _ h => h) hc.2 ha)
  | .one rs i t, l, B, a, w, he, hc, h => by
    simp only [PT.ok, Bool.and_eq_true, beq_iff_eq] at hc
    simp only [PT.even] at he
    obtain ⟨h1, ⟨h2, h6⟩, h3⟩ := hc
    refine segT_any hsel hQ B w _ (1 + t.len T) rs l a h1 h (fun a' ha => ?_)
    rw [Nat.add_comm]
    refine ⟨fun h0 => (by rw [h2] at h0; cases h0), fun j hj => ?_⟩
    rw [h2] at hj
    obtain rfl : j = i := by simpa using hj
    refine wpOp_mono (fun a'' w'' hh => ⟨fun _ _ => hh.1, fun hm => by simp [hm] at h6, ?_⟩) ha
    obtain ⟨hb, B', hB, hm⟩ := hh
    exact wpAnyT_less (fun w3 h4 => hb.trans (h4.mono hB)) _ _ _ _ (PT.any hsel hQ t _ B' a'' w'' he h3 hm)
  | .two rs i1 t1 i2 t2, l, B, a, w, he, hc, h => by
    simp only [PT.ok, Bool.and_eq_true, beq_iff_eq] at hc
    simp only [PT.even, Bool.and_eq_true, beq_iff_eq] at he
    obtain ⟨h1, ⟨h2, m1, m2⟩, k1, k2⟩ := hc
    obtain ⟨e0, e1, e2⟩ := he
    refine segT_any hsel hQ B w _ (1 + t1.len T) rs l a h1 h (fun a' ha => ?_)
    rw [Nat.add_comm]
    refine ⟨fun h0 => (by rw [h2] at h0; cases h0), fun j hj => ?_⟩
    rw [h2] at hj
    rcases List.mem_cons.1 hj with rfl | hj
    · refine wpOp_mono (fun a'' w'' hh => ⟨fun _ _ => hh.1, fun hm => by simp [hm] at m1, ?_⟩) ha.1
      obtain ⟨hb, B', hB, hm⟩ := hh
      exact wpAnyT_less (fun w3 h4 => hb.trans (h4.mono hB)) _ _ _ _ (PT.any hsel hQ t1 _ B' a'' w'' e1 k1 hm)
    · obtain rfl : j = i2 := by simpa using hj
      rw [e0]
      refine wpOp_mono (fun a'' w'' hh => ⟨fun _ _ => hh.1, fun hm => by simp [hm] at m2, ?_⟩) ha.2
      obtain ⟨hb, B', hB, hm⟩ := hh
      exact wpAnyT_less (fun w3 h4 => hb.trans (h4.mono hB)) _ _ _ _ (PT.any hsel hQ t2 _ B' a'' w'' e2 k2 hm)

/-- The region, by its plan. -/
theorem wp_region_plan {id : Nat} {a : Act} {w : World} (B : Nat) (p : PT) (T : List Nat) (hm : P.follows .mixedOrders = true) (hsel : Region.noSelect ops = true)
    (hc : (p.ok ops T (Array.replicate ops.size false) && (p.even T && p.len T == ops.size)) = true) (hQ : ∀ c a t v w, Q (.panic c) (Act.put a (some t) v) w → Q (.panic c) a w)
    (h : p.wp P ops Q T B a w.drew) : (Code.region id ops true).wp P Q a w := by
  simp only [Bool.and_eq_true, beq_iff_eq] at hc
  obtain ⟨h1, h2, h3⟩ := hc
  have := PT.any hsel hQ p _ B a w.drew h2 h1 h
  rw [h3] at this
  exact wp_region_any hm (wpAnyT_any _ _ _ _ this)

theorem plan_one {rs : List Nat} {i : Nat} {t : PT} {B : Nat} {a : Act} {w : World} {l : List Oper} (hl : pick ops rs = l)
    (h : wpQuiet P ops (AfterB B w) (fun a' => wpOp P ops Q i (fun a'' w'' => Below B w w'' ∧ ∃ B', B ≤ B' ∧ t.wp P ops Q T B' a'' w'') a' w) l a) : (PT.one rs i t).wp P ops Q T B a w := by
  subst hl; exact h
theorem plan_two {rs : List Nat} {i1 i2 : Nat} {t1 t2 : PT} {B : Nat} {a : Act} {w : World} {l : List Oper} (hl : pick ops rs = l)
    (h : wpQuiet P ops (AfterB B w) (fun a' => wpOp P ops Q i1 (fun a'' w'' => Below B w w'' ∧ ∃ B', B ≤ B' ∧ t1.wp P ops Q T B' a'' w'') a' w ∧ wpOp P ops Q i2 (fun a'' w'' => Below B w w'' ∧ ∃ B', B ≤ B' ∧ t2.wp P ops Q T B' a'' w'') a' w) l a) : (PT.two rs i1 t1 i2 t2).wp P ops Q T B a w := by
  subst hl; exact h
theorem plan_fin {last : List Nat} {B : Nat} {a : Act} {w : World} {l t : List Oper} (hl : pick ops last = l) (ht : pick ops T = t)
    (h : wpQuiet P ops (AfterB B w) (fun a' => wpList P ops Q t a' w) l a) : (PT.fin last).wp P ops Q T B a w := by
  subst hl ht; exact h

/-- What a slice tells, cell by cell. -/
def Src (w : World) (A : Option Addr) (m c : Nat) (news : List Value) : Prop := (A = none → m = 0 ∧ c = 0 ∧ news = []) ∧ ∀ ad, A = some ad → ∀ j u, news[j]? = some u → w.cell? (ad.add j) = some u
theorem Src.below {w w' : World} {A : Option Addr} {m c B : Nat} {news : List Value} (h : Src w A m c news) (hb : Below B w w') (hA : ∀ a, A = some a → a.block < B) : Src w' A m c news :=
  ⟨h.1, fun ad e j u hu => by
    refine (World.cell?_of_block (w := w) (hb.block _ ?_)).trans (h.2 ad e j u hu)
    have : (ad.add j).block = ad.block := by unfold Addr.add; split <;> rfl
    rw [this]; exact hA ad e⟩
end
end Go.Proofs.YtbldlidpapdkbaaGreatDoor

/- The law of one order over calls that may change the blocks of a set, and no other block that was there. No program in sight. -/
namespace Go.Proofs.YtbldlidpapdkbaaGreatDoor
open Go.RowKit

/-- The worlds from w on in which, of what was there, only blocks of S are others. -/
def LaterS (S : Nat → Prop) (w : World) : Type := { w' : World // Tch S w w' }
def LaterS.val {S : Nat → Prop} {w : World} (x : LaterS S w) : World := x.1
theorem LaterS.ext {S : Nat → Prop} {w : World} (x : LaterS S w) : Tch S w x.val := x.2
instance (S : Nat → Prop) (w : World) : Nonempty (LaterS S w) := ⟨⟨w, Tch.refl _ _⟩⟩
def AfterS (S : Nat → Prop) (w : World) (w' : World) : Prop := ∃ x : LaterS S w, w' = x.val
attribute [go_sem] AfterS

theorem Tch.cell {S : Nat → Prop} {w w' : World} (h : Tch S w w') {a : Addr} {v : Value} (hc : w.cell? a = some v) (hn : ¬ S a.block) : w'.cell? a = some v :=
  (World.cell?_of_block (h.block a.block (cell_size hc) hn)).trans hc
where cell_size {w : World} {a : Addr} {v : Value} (h : w.cell? a = some v) : a.block < w.heap.size := by
        unfold World.cell? at h
        rcases Nat.lt_or_ge a.block w.heap.size with h1 | h1
        · exact h1
        · rw [Array.getElem?_eq_none h1] at h; simp at h

section
variable {P : Program} {ops : Array Oper} {Q : Exit → Act → World → Prop} {T : List Nat}

def wpS (P : Program) (ops : Array Oper) (Q : Exit → Act → World → Prop) (last T : List Nat) : List (List Nat × Nat) → (Nat → Prop) → Act → World → Prop
  | [], S, a, w => wpQuiet P ops (AfterS S w) (fun a' => wpList P ops Q (pick ops T) a' w) (pick ops last) a
  | (rs, i) :: more, S, a, w => wpQuiet P ops (AfterS S w) (fun a' => wpOp P ops Q i (fun a'' w'' => Tch S w w'' ∧ ∃ S' : Nat → Prop, (∀ k, k < w.heap.size → S' k → S k) ∧ wpS P ops Q last T more S' a'' w'') a' w) (pick ops rs) a

theorem segS_any (hsel : Region.noSelect ops = true) (hQ : ∀ c a t v w, Q (.panic c) (Act.put a (some t) v) w → Q (.panic c) a w) (S : Nat → Prop) (w : World) (K : Act → Prop) (n : Nat) :
    ∀ (rs : List Nat) (l : Array Bool) (a : Act), segT ops T l rs = true → wpQuiet P ops (AfterS S w) K (pick ops rs) a →
      (∀ a', K a' → wpAnyT P ops Q (Tch S w) T n (mark l rs) a' w) → wpAnyT P ops Q (Tch S w) T (n + rs.length) l a w
  | [], l, a, _, h, hk => hk a h
  | i :: r, l, a, hc, h, hk => by
    simp only [segT, Bool.and_eq_true] at hc
    obtain ⟨h1, h2, h3, h5, h4⟩ := hc
    simp only [behindT, Bool.and_eq_true, Bool.or_eq_true] at h5
    cases ho : ops[i]? with
    | none => simp [ho] at h3
    | some o =>
      simp only [ho, Option.map_some, Option.getD_some] at h3
      simp only [pick, ho] at h
      have step : ∃ v, YieldsIf P ops (Tch S w) o v a ∧ wpQuiet P ops (AfterS S w) K (pick ops r) (a.put o.dst v) := by
        unfold wpQuiet at h
        by_cases hw : Region.wanted o (yielded ops a.tmps) = true
        · rw [if_pos hw] at h
          obtain ⟨v, hv, hn⟩ := h
          refine ⟨v, .inl ⟨hw, fun w' hw' => ?_⟩, hn⟩
          have hq := hv w' ⟨⟨w', hw'⟩, rfl⟩
          unfold Oper.quietAt at hq
          generalize hr : (execOp a.eval o).run P w' = res at hq
          cases res with
          | ok m w1 =>
            obtain ⟨x, rfl⟩ := val_value h3 hr
            simp only [Oper.quietUpon] at hq
            rw [hq.1, hq.2]
          | halt x w1 => simp only [Oper.quietUpon] at hq
        · rw [if_neg hw] at h
          exact ⟨undef, .inr ⟨by simpa using hw, rfl⟩, h⟩
      obtain ⟨v, hy, hn⟩ := step
      have ih := segS_any hsel hQ S w K n r (l.setIfInBounds i true) (a.put o.dst v) h4 hn hk
      have hQ' : ∀ c a w, Q (.panic c) (a.put o.dst v) w → Q (.panic c) a w := fun c a' w' hh => by
        cases hd : o.dst with
        | none => rw [hd] at hh; exact hh
        | some t => rw [hd] at hh; exact hQ c a' t v w' hh
      have hy' : YieldsIf P ops (fun w' => mv ops i = true ∨ Tch S w w') o v a := by
        rcases hy with ⟨hw, hv⟩ | hy
        · refine .inl ⟨hw, fun w' hw' => ?_⟩
          rcases hw' with hw' | hw'
          · obtain ⟨o', x, ho', hx⟩ := mv_at hw'
            obtain rfl : o' = o := Option.some.inj (ho'.symm.trans ho)
            have e := hv w (Tch.refl _ _)
            rw [mv_run hx] at e ⊢
            injection e with e1 e2
            injection e1 with e1
            rw [e1]
          · exact hv w' hw'
        · exact .inr hy
      have := takeT (Q := Q) (S := Tch S w) (T := T) ho hsel hQ' (h5.imp id fun g => ⟨g.1, fun j hj => by have := List.all_eq_true.1 g.2.2 j hj; simpa using this⟩) (n + r.length) l a w (Region.free_spec ho h2) (h5.imp id fun g k hk => by have := List.all_eq_true.1 g.2.1 k hk; simpa using this) (by simpa using h1) hy' (.inr (Tch.refl _ _)) ih
      simpa [Nat.add_assoc] using this

theorem planS_any (hsel : Region.noSelect ops = true) (hQ : ∀ c a t v w, Q (.panic c) (Act.put a (some t) v) w → Q (.panic c) a w) (last : List Nat) :
    ∀ (p : List (List Nat × Nat)) (l : Array Bool) (S : Nat → Prop) (a : Act) (w : World), planT ops last T l p = true → wpS P ops Q last T p S a w → wpAnyT P ops Q (Tch S w) T (planTLen last T p) l a w
  | [], l, S, a, w, hc, h => by
    simp only [planT, Bool.and_eq_true] at hc
    exact segS_any hsel hQ S w _ T.length last l a hc.1 h (fun a' ha => seqT_any (fun _ h => h) T _ a' w (fun _ h => h) hc.2 ha)
  | (rs, i) :: more, l, S, a, w, hc, h => by
    simp only [planT, Bool.and_eq_true, beq_iff_eq] at hc
    obtain ⟨h1, ⟨h2, h6⟩, h3⟩ := hc
    refine segS_any hsel hQ S w _ (1 + planTLen last T more) rs l a h1 h (fun a' ha => ?_)
    rw [Nat.add_comm]
    refine ⟨fun h0 => (by rw [h2] at h0; cases h0), fun j hj => ?_⟩
    rw [h2] at hj
    obtain rfl : j = i := by simpa using hj
    refine wpOp_mono (fun a'' w'' hh => ⟨fun _ _ => hh.1, fun hm => by simp [hm] at h6, ?_⟩) ha
    obtain ⟨hb, S', hS, hm⟩ := hh
    exact wpAnyT_less (fun w3 h4 => hb.trans h4 hS) _ _ _ _ (planS_any hsel hQ last more _ S' a'' w'' h3 hm)

/-- The region, by one order. -/
theorem wp_region_set {id : Nat} {a : Act} {w : World} (S : Nat → Prop) (p : List (List Nat × Nat)) (last T : List Nat) (hm : P.follows .mixedOrders = true) (hsel : Region.noSelect ops = true)
    (hc : (planT ops last T (Array.replicate ops.size false) p && planTLen last T p == ops.size) = true) (hQ : ∀ c a t v w, Q (.panic c) (Act.put a (some t) v) w → Q (.panic c) a w)
    (h : wpS P ops Q last T p S a w.drew) : (Code.region id ops true).wp P Q a w := by
  simp only [Bool.and_eq_true, beq_iff_eq] at hc
  have := planS_any hsel hQ last p _ S a w.drew hc.1 h
  rw [hc.2] at this
  exact wp_region_any hm (wpAnyT_any _ _ _ _ this)

theorem set_cons {rs : List Nat} {i : Nat} {more : List (List Nat × Nat)} {last : List Nat} {S : Nat → Prop} {a : Act} {w : World} {l : List Oper} (hl : pick ops rs = l)
    (h : wpQuiet P ops (AfterS S w) (fun a' => wpOp P ops Q i (fun a'' w'' => Tch S w w'' ∧ ∃ S' : Nat → Prop, (∀ k, k < w.heap.size → S' k → S k) ∧ wpS P ops Q last T more S' a'' w'') a' w) l a) : wpS P ops Q last T ((rs, i) :: more) S a w := by
  subst hl; exact h
theorem set_last {last : List Nat} {S : Nat → Prop} {a : Act} {w : World} {l t : List Oper} (hl : pick ops last = l) (ht : pick ops T = t)
    (h : wpQuiet P ops (AfterS S w) (fun a' => wpList P ops Q t a' w) l a) : wpS P ops Q last T [] S a w := by
  subst hl ht; exact h

/-- A call of a Go function, by its contract; what may change behind it is chosen then. -/
theorem set_call {i : Nat} {S : Nat → Prop} {dst : Option Tmp} {f : FuncId} {args : Array Operand} {tys : Array TypeId} {ty : TypeId} {pos : String} {after : Array Edge} {guard : Option (Nat × Bool)} {a : Act} {w : World} {K : (Nat → Prop) → Act → World → Prop}
    (hf : ∀ (xs : Array Value) (w : World), (callFunc f xs).run P w = .ok (.enter f xs) w)
    (ho : ops[i]? = some { dst := dst, op := .call { callee := .value (.func f), args := args, argTypes := tys }, type := ty, pos := pos, after := after, guard := guard })
    (hw : Region.wanted { dst := dst, op := .call { callee := .value (.func f), args := args, argTypes := tys }, type := ty, pos := pos, after := after, guard := guard } (yielded ops a.tmps) = true)
    {vs : Array Value} (hvl : args.toList.map a.eval = vs.toList)
    {R : Value → World → Prop} (hc : Calls P f vs w (fun e w' => ∃ v, e = .returned v ∧ Tch S w w' ∧ R v w')) (hk : ∀ v w', Tch S w w' → R v w' → ∃ S' : Nat → Prop, (∀ k, k < w.heap.size → S' k → S k) ∧ K S' (a.put dst v) w') :
    wpOp P ops Q i (fun a'' w'' => Tch S w w'' ∧ ∃ S' : Nat → Prop, (∀ k, k < w.heap.size → S' k → S k) ∧ K S' a'' w'') a w := by
  unfold wpOp
  simp only [ho]
  rw [if_pos hw]
  refine .inl ?_
  have hvs : args.map a.eval = vs := Array.ext' (by simpa using hvl)
  subst hvs
  unfold Oper.wp
  rw [execOp_call_go, hf]
  simp only [Oper.upon, Array.empty_append, Array.append_empty]
  refine hc.mono fun e w' hh => ?_
  obtain ⟨v, rfl, h1, h2⟩ := hh
  exact ⟨h1, hk v w' h1 h2⟩

end

end Go.Proofs.YtbldlidpapdkbaaGreatDoor

/- The contract of an arena's Clone. -/
namespace Go.Proofs.YtbldlidpapdkbaaGreatDoor
open Go.RowKit

section
variable {w : World} {g base cap c : Nat} {A : Option Addr} {bs : List UInt8}
end
end Go.Proofs.YtbldlidpapdkbaaGreatDoor

/- The contracts of the document's own numbers: Get, Low, IsSize, Pack, Unpack, Need, Class. -/
namespace Go.Proofs.YtbldlidpapdkbaaGreatDoor
open Go.RowKit

theorem rt_i {k : IntKind} {a b : Int} (h : a = b) : Ending.returned (.int k a) = .returned (.int k b) := by rw [h]
theorem rt_b {a b : Bool} (h : a = b) : Ending.returned (.bool a) = .returned (.bool b) := by rw [h]

section
variable (w : World)
/-- What Unpack tells. -/
def unpV (o : Option (Nat × Bool)) : Value := match o with
  | some (s, u) => .tuple #[.int .i64 (s : Int), .bool u, .bool true]
  | none => .tuple #[.int .i64 0, .bool false, .bool false]

/-- What Need tells. -/
def needV (o : Option Nat) : Value := match o with
  | some s => .tuple #[.int .i64 (s : Int), .bool true]
  | none => .tuple #[.int .i64 0, .bool false]

end
end Go.Proofs.YtbldlidpapdkbaaGreatDoor

/- The contracts of the program's tags: isSize, Pack, Unpack; the head of the laws of layer 6. -/
namespace Go.Proofs.YtbldlidpapdkbaaGreatDoor
open Go.RowKit

theorem andnot_one (v : Nat) (hv : v ≤ 16385) : wrap64 (bits .andNot .u64 (v : Int) 1) = ((v - v % 2 : Nat) : Int) := by
  have h : bits .andNot .u64 (v : Int) ((1 : Nat) : Int) = ((v &&& (18446744073709551615 - 1) : Nat) : Int) := by
    have hx : v &&& (18446744073709551615 - 1) < 2 ^ 64 := Nat.and_lt_two_pow _ (by omega)
    show IntKind.u64.wrap ((BitVec.ofInt 64 (v : Int) &&& ~~~BitVec.ofInt 64 ((1 : Nat) : Int)).toNat : Int) = _
    rw [BitVec.toNat_and, BitVec.toNat_not, ofInt_u64 v (by omega), ofInt_u64 1 (by omega), IntKind.wrap_u64]
    have e : 2 ^ 64 - 1 - 1 = 18446744073709551615 - 1 := by omega
    rw [e]
    omega
  have h2 : v &&& (18446744073709551615 - 1) = v - v % 2 := by
    rw [nat_hi64_1, Nat.mod_eq_of_lt (by omega)]
    omega
  have h3 : bits .andNot .u64 (v : Int) 1 = ((v - v % 2 : Nat) : Int) := by rw [← h2]; exact h
  rw [h3]
  have h4 := Nat.sub_le v (v % 2)
  unfold wrap64
  omega
theorem and_one (v : Nat) (hv : v < 18446744073709551616) : (bits .and .u64 (v : Int) 1 == 1) = (v % 2 == 1) := by
  have h : bits .and .u64 (v : Int) 1 = ((v &&& 1 : Nat) : Int) := u64_and_nat v 1 hv (by omega)
  rw [h, Nat.and_one_is_mod, Bool.eq_iff_iff, beq_iff_eq, beq_iff_eq]
  omega

section
variable (w : World)
set_option maxHeartbeats 400000 in
theorem tissize_any (n : Int) (hn : -9223372036854775808 ≤ n ∧ n ≤ 9223372036854775807) (b : Bool) (hb : isSz n = b) :
    Calls Tryz.prog 129 #[.int .i64 n] w fun e w' => e = .returned (.bool b) ∧ w = w' := by
  by_cases h1 : 32 ≤ n
  · by_cases h2 : n ≤ 16384
    · have e : (n % 16 == 0) = b := by rw [← hb]; simp [isSz, h1, h2]
      have HE := Lib.hid e
      clear hb e
      go_enter Tryz.func129, Tryz.ntmps129
      go_wp2
      go_ret
      exact ⟨rt_b HE.out, rfl⟩
    · obtain rfl : false = b := by rw [← hb]; simp [isSz, h2]
      clear hb
      go_enter Tryz.func129, Tryz.ntmps129
      go_wp2
      go_ret
      exact ⟨rfl, rfl⟩
  · obtain rfl : false = b := by rw [← hb]; simp [isSz, h1]
    clear hb
    go_enter Tryz.func129, Tryz.ntmps129
    go_wp2
    go_ret
    exact ⟨rfl, rfl⟩

set_option maxHeartbeats 400000 in
theorem tpack_any (s : Int) (u : Bool) (hs : -9223372036854775808 ≤ s ∧ s ≤ 9223372036854775807) (m : Nat) (hm : packN s u = m) :
    Calls Tryz.prog 136 #[.int .i64 s, .bool u] w fun e w' => e = .returned (.int .u64 (m : Int)) ∧ w = w' := by
  cases hb : isSz s
  · obtain rfl : 0 = m := by rw [← hm]; simp [packN, hb]
    have HI := Lib.hid (tissize_any w s hs false hb)
    clear hm hb
    go_enter Tryz.func136, Tryz.ntmps136
    go_wp2_with fail
    with_reducible refine HI.out.mono ?_
    rintro e w1 ⟨rfl, rfl⟩
    go_wp2
    go_ret
    exact ⟨rfl, rfl⟩
  · have h := (isSz_iff s).1 hb
    have HI := Lib.hid (tissize_any w s hs true hb)
    obtain ⟨n, rfl⟩ : ∃ n : Nat, s = (n : Int) := ⟨s.toNat, by omega⟩
    have hn : n ≤ 16384 := by omega
    have HM : Hid (n + (if u = true then 1 else 0) = m) := (show _ = _ by rw [← hm]; simp [packN, hb])
    clear hm hb h
    cases u
    · go_enter Tryz.func136, Tryz.ntmps136
      go_wp2_with fail
      with_reducible refine HI.out.mono ?_
      rintro e w1 ⟨rfl, rfl⟩
      go_wp2
      go_ret
      exact ⟨rt_i (by have := HM.out; simp at this; omega), rfl⟩
    · go_enter Tryz.func136, Tryz.ntmps136
      go_wp2_with fail
      with_reducible refine HI.out.mono ?_
      rintro e w1 ⟨rfl, rfl⟩
      go_wp2
      go_ret
      exact ⟨rt_i (by have := HM.out; simp at this; omega), rfl⟩

set_option maxHeartbeats 400000 in
theorem tunpack_any (v : Nat) (hv : v < 18446744073709551616) :
    Calls Tryz.prog 105 #[.int .u64 (v : Int)] w fun e w' => e = .returned (unpV (unpN v)) ∧ w = w' := by
  by_cases h0 : 16385 < v
  · have e : unpN v = none := by
      unfold unpN
      rw [if_neg]
      rintro ⟨_, h⟩
      have := (isSz_iff _).1 h
      omega
    rw [e]
    clear e
    go_enter Tryz.func105, Tryz.ntmps105
    go_wp2
    go_ret3
    exact ⟨rfl, rfl⟩
  · obtain ⟨s, hs⟩ : ∃ s : Nat, v - v % 2 = s := ⟨_, rfl⟩
    have hs2 : wrap64 (bits .andNot .u64 (v : Int) 1) = (s : Int) := by rw [andnot_one v (by omega), hs]
    cases hb : isSz (s : Int)
    · have e : unpN v = none := by unfold unpN; rw [hs, if_neg (by simp [hb])]
      rw [e]
      have HI := Lib.hid (tissize_any w (s : Int) (by have := Nat.sub_le v (v % 2); omega) false hb)
      have HS := Lib.hid hs2
      clear e hs hb hs2
      go_enter Tryz.func105, Tryz.ntmps105
      go_wp2_with fail
      rw [HS.out]
      with_reducible refine HI.out.mono ?_
      rintro e w1 ⟨rfl, rfl⟩
      go_wp2
      go_ret3
      exact ⟨rfl, rfl⟩
    · have e : unpN v = some (s, v % 2 == 1) := by unfold unpN; rw [hs, if_pos ⟨by omega, hb⟩]
      rw [e]
      have HI := Lib.hid (tissize_any w (s : Int) (by have := Nat.sub_le v (v % 2); omega) true hb)
      have HS := Lib.hid hs2
      have HB := Lib.hid (and_one v hv)
      clear e hs hb hs2
      go_enter Tryz.func105, Tryz.ntmps105
      go_wp2_with fail
      rw [HS.out]
      with_reducible refine HI.out.mono ?_
      rintro e w1 ⟨rfl, rfl⟩
      go_wp2
      go_ret3
      refine ⟨?_, rfl⟩
      rw [← HB.out]
      rfl

end
end Go.Proofs.YtbldlidpapdkbaaGreatDoor

/- Blocks in bytes: plain definitions and facts. No program in sight. -/
namespace Go.Proofs.YtbldlidpapdkbaaGreatDoor

/-- A block. -/
structure Bk where
  off : Nat
  size : Nat
  used : Bool
deriving DecidableEq
/-- The number of the eight bytes from o on. -/
def wordN (bs : List UInt8) (o : Nat) : Nat := numB ((bs.drop o).take 8)
def word? (bs : List UInt8) (o : Int) : Option Nat := if 0 ≤ o ∧ o + 8 ≤ bs.length then some (wordN bs o.toNat) else none
/-- Could a block of a size stand at o, of so many bytes? -/
def could (n : Nat) (o size : Int) : Bool := decide (184 ≤ o) && (o % 16 == 8 && (decide (o ≤ n) && decide (size ≤ n - o)))
theorem could_iff (n : Nat) (o size : Int) : could n o size = true ↔ 184 ≤ o ∧ o % 16 = 8 ∧ o ≤ n ∧ size ≤ n - o := by simp [could]
/-- The block that stands at o. -/
def getB (bs : List UInt8) (o : Int) : Option Bk :=
  if could bs.length o 8 = false then none else
  match unpN (wordN bs o.toNat) with
  | none => none
  | some (s, u) => if could bs.length o s = false then none else if wordN bs (o.toNat + s - 8) = wordN bs o.toNat then some ⟨o.toNat, s, u⟩ else none
/-- The block that ends at o. -/
def aheadB (bs : List UInt8) (o : Int) : Option Bk :=
  if o < 184 ∨ (bs.length : Int) < o then none else
  match unpN (wordN bs (o.toNat - 8)) with
  | none => none
  | some (s, u) => match getB bs (o - s) with
    | none => none
    | some x => if x.size = s ∧ x.used = u then some x else none

/-- All blocks from o on. -/
def walkF (bs : List UInt8) : Nat → Nat → Option (List Bk)
  | 0, _ => none
  | k + 1, o => if o < bs.length then (match getB bs (o : Int) with
    | none => none
    | some x => (walkF bs k (o + x.size)).map (x :: ·)) else some []
def walkB (bs : List UInt8) : Option (List Bk) := if bs.length < 184 then none else walkF bs (bs.length + 1) 184

theorem wordN_lt (bs : List UInt8) (o : Nat) : wordN bs o < 18446744073709551616 := numB_lt64 _ (by rw [List.length_take]; omega)
theorem getB_some {bs : List UInt8} {o : Int} {x : Bk} (h : getB bs o = some x) : o = (x.off : Int) ∧ 184 ≤ x.off ∧ x.off % 16 = 8 ∧ x.off + x.size ≤ bs.length ∧ isSz (x.size : Int) = true ∧ unpN (wordN bs x.off) = some (x.size, x.used) ∧ wordN bs (x.off + x.size - 8) = wordN bs x.off := by
  unfold getB at h
  split at h
  · cases h
  · rename_i hc
    have hc' := (could_iff _ _ _).1 (by simpa using hc)
    split at h
    · cases h
    · rename_i s u hu
      split at h
      · cases h
      · rename_i hc2
        have hc2' := (could_iff _ _ _).1 (by simpa using hc2)
        split at h
        · rename_i hw
          injection h with h
          subst h
          have := unpN_some hu
          refine ⟨by dsimp only; omega, by dsimp only; omega, by dsimp only; omega, by dsimp only; omega, this.1, hu, hw⟩
        · cases h
/-- A block stands at o just so. -/
theorem getB_of {bs : List UInt8} {x : Bk} (h1 : 184 ≤ x.off) (h2 : x.off % 16 = 8) (h3 : x.off + x.size ≤ bs.length) (h4 : unpN (wordN bs x.off) = some (x.size, x.used)) (h5 : wordN bs (x.off + x.size - 8) = wordN bs x.off) : getB bs (x.off : Int) = some x := by
  have hs := (isSz_iff _).1 (unpN_some h4).1
  unfold getB
  rw [if_neg (by rw [(could_iff _ _ _).2 (by omega)]; simp)]
  rw [Int.toNat_natCast, h4]
  dsimp only
  rw [if_neg (by rw [(could_iff _ _ _).2 (by omega)]; simp), if_pos h5]

end Go.Proofs.YtbldlidpapdkbaaGreatDoor

/- Numbers laid into bytes, and bits: plain facts. No program in sight. -/
namespace Go.Proofs.YtbldlidpapdkbaaGreatDoor

/-- A number laid at an offset. -/
def lyN (bs : List UInt8) (o v : Nat) : List UInt8 := bs.take o ++ (lowB 8 v ++ bs.drop (o + 8))
theorem lyN_length (bs : List UInt8) (o v : Nat) (h : o + 8 ≤ bs.length) : (lyN bs o v).length = bs.length := by
  unfold lyN
  rw [List.length_append, List.length_append, lowB_length, List.length_take, List.length_drop]
  omega
theorem lyN_get (bs : List UInt8) (o v i : Nat) (h : o + 8 ≤ bs.length) (hi : i < o ∨ o + 8 ≤ i) : (lyN bs o v)[i]? = bs[i]? := by
  unfold lyN
  have e1 : (bs.take o).length = o := by rw [List.length_take]; omega
  rcases hi with hi | hi
  · rw [List.getElem?_append_left (by omega), List.getElem?_take_of_lt hi]
  · rw [List.getElem?_append_right (by omega), e1, List.getElem?_append_right (by rw [lowB_length]; omega), lowB_length, List.getElem?_drop]
    congr 1
    omega
theorem wordN_same (bs : List UInt8) (o v : Nat) (h : o + 8 ≤ bs.length) (hv : v < 18446744073709551616) : wordN (lyN bs o v) o = v := by
  have e1 : (bs.take o).length = o := by rw [List.length_take]; omega
  have e : ((lyN bs o v).drop o).take 8 = lowB 8 v := by
    unfold lyN
    rw [List.drop_append, e1, List.drop_eq_nil_of_le (by omega), List.nil_append, Nat.sub_self, List.drop_zero]
    have := lowB_length 8 v
    rw [List.take_append_of_le_length (by omega), List.take_of_length_le (by omega)]
  unfold wordN
  rw [e, numB_lowB]
  exact Nat.mod_eq_of_lt hv
theorem wordN_congr (bs bs' : List UInt8) (p : Nat) (h : ∀ i, p ≤ i → i < p + 8 → bs'[i]? = bs[i]?) : wordN bs' p = wordN bs p := by
  unfold wordN
  congr 1
  apply List.ext_getElem?
  intro i
  rcases Nat.lt_or_ge i 8 with hi | hi
  · rw [List.getElem?_take_of_lt hi, List.getElem?_take_of_lt hi, List.getElem?_drop, List.getElem?_drop]
    exact h _ (by omega) (by omega)
  · rw [List.getElem?_eq_none (by rw [List.length_take]; omega), List.getElem?_eq_none (by rw [List.length_take]; omega)]
theorem wordN_other (bs : List UInt8) (o v p : Nat) (h : o + 8 ≤ bs.length) (hd : p + 8 ≤ o ∨ o + 8 ≤ p) : wordN (lyN bs o v) p = wordN bs p :=
  wordN_congr _ _ _ fun i h1 h2 => lyN_get bs o v i h (by omega)

/-- Blocks stand by their tags. -/
theorem getB_congr (bs bs' : List UInt8) (x : Bk) (hl : bs'.length = bs.length) (hx : getB bs (x.off : Int) = some x) (h1 : wordN bs' x.off = wordN bs x.off) (h2 : wordN bs' (x.off + x.size - 8) = wordN bs (x.off + x.size - 8)) : getB bs' (x.off : Int) = some x := by
  obtain ⟨_, g1, g2, g3, g4, g5, g6⟩ := getB_some hx
  exact getB_of g1 g2 (by omega) (by rw [h1]; exact g5) (by rw [h1, h2]; exact g6)

/-- A bit of a number. -/
def bitN (w c : Nat) : Bool := w / 2 ^ c % 2 == 1
theorem bitN_succ (w c : Nat) : bitN w (c + 1) = bitN (w / 2) c := by
  unfold bitN
  rw [Nat.pow_succ, Nat.mul_comm, Nat.div_div_eq_div_mul]
theorem bitN_add (w c : Nat) (h : bitN w c = false) (d : Nat) : bitN (w + 2 ^ c) d = if d = c then true else bitN w d := by
  induction c generalizing w d with
  | zero =>
    have h0 : w % 2 = 0 := by
      unfold bitN at h
      simp at h
      omega
    cases d with
    | zero => simp [bitN]; omega
    | succ d =>
      rw [if_neg (by omega), bitN_succ, bitN_succ]
      congr 1
      simp; omega
  | succ c ih =>
    rw [bitN_succ] at h
    have e : (w + 2 ^ (c + 1)) / 2 = w / 2 + 2 ^ c := by rw [Nat.pow_succ]; omega
    cases d with
    | zero =>
      rw [if_neg (by omega)]
      simp only [bitN, Nat.pow_zero, Nat.div_one]
      rw [Nat.pow_succ]
      congr 1
      omega
    | succ d =>
      rw [bitN_succ, e, ih (w / 2) h d, bitN_succ w d]
      by_cases hd : d = c
      · rw [if_pos hd, if_pos (by omega)]
      · rw [if_neg hd, if_neg (by omega)]
theorem bitN_ge (w c : Nat) (h : bitN w c = true) : 2 ^ c ≤ w := by
  unfold bitN at h
  rw [beq_iff_eq] at h
  rcases Nat.lt_or_ge w (2 ^ c) with h1 | h1
  · rw [Nat.div_eq_of_lt h1] at h; cases h
  · exact h1
theorem bitN_sub_c (w c : Nat) (h : bitN w c = true) : bitN (w - 2 ^ c) c = false := by
  have hg := bitN_ge w c h
  have hp : 0 < 2 ^ c := Nat.two_pow_pos c
  unfold bitN at h ⊢
  rw [beq_iff_eq] at h
  have e : w / 2 ^ c = (w - 2 ^ c) / 2 ^ c + 1 := by
    conv => lhs; rw [← Nat.sub_add_cancel hg]
    rw [Nat.add_div_right _ hp]
  rw [e] at h
  rw [beq_eq_false_iff_ne]
  omega
theorem bitN_sub (w c : Nat) (h : bitN w c = true) (d : Nat) : bitN (w - 2 ^ c) d = if d = c then false else bitN w d := by
  have hg := bitN_ge w c h
  have h0 := bitN_sub_c w c h
  have := bitN_add (w - 2 ^ c) c h0 d
  rw [Nat.sub_add_cancel hg] at this
  by_cases hd : d = c
  · rw [if_pos hd, hd]; exact h0
  · rw [if_neg hd] at this ⊢
    exact this.symm
theorem bitN_lt (w c : Nat) (hc : c < 64) (hw : w < 18446744073709551616) (h : bitN w c = false) : w + 2 ^ c < 18446744073709551616 := by
  have e : (18446744073709551616 : Nat) = 2 ^ (63 - c) * 2 * 2 ^ c := by
    rw [← Nat.pow_succ, ← Nat.pow_add, show (63 - c).succ + c = 64 by omega]
  have hp : 0 < 2 ^ c := Nat.two_pow_pos c
  have h1 : w / 2 ^ c < 2 ^ (63 - c) * 2 := by
    rw [Nat.div_lt_iff_lt_mul hp, ← e]; exact hw
  have h2 : w / 2 ^ c % 2 = 0 := by
    unfold bitN at h
    rw [beq_eq_false_iff_ne] at h
    omega
  have h3 : w / 2 ^ c + 2 ≤ 2 ^ (63 - c) * 2 := by omega
  have h4 := Nat.div_add_mod w (2 ^ c)
  have h5 := Nat.mod_lt w hp
  have h6 : (w / 2 ^ c + 2) * 2 ^ c ≤ 2 ^ (63 - c) * 2 * 2 ^ c := Nat.mul_le_mul_right _ h3
  rw [← e, Nat.add_mul, Nat.mul_comm (w / 2 ^ c)] at h6
  omega
end Go.Proofs.YtbldlidpapdkbaaGreatDoor

/- Lists of free blocks in bytes: plain definitions; what Put, Take, All come to where the lists are right. No program in sight. -/
namespace Go.Proofs.YtbldlidpapdkbaaGreatDoor

/-- The number at an offset; 0, if there is none. -/
def numO (bs : List UInt8) (o : Int) : Nat := (word? bs o).getD 0
/-- The class of the free block at o; -1: there is none. -/
def freeI (bs : List UInt8) (o : Int) : Int := match getB bs o with
  | some x => if x.used = true then -1 else classI x.size
  | none => -1
/-- Does a free block of a class stand there? -/
def memberB (bs : List UInt8) (p : Nat) (c : Int) : Bool := decide (p ≤ 20000) && (match getB bs (p : Int) with
  | some x => !x.used && classI x.size == c
  | none => false)
/-- A class's bit, as its first one tells. -/
def markB (bs : List UInt8) (c : Nat) : List UInt8 :=
  if bitN (wordN bs 0) c = true ∧ wordN bs (8 + 8 * c) = 0 then lyN bs 0 (wordN bs 0 - 2 ^ c)
  else if bitN (wordN bs 0) c = false ∧ wordN bs (8 + 8 * c) ≠ 0 then lyN bs 0 (wordN bs 0 + 2 ^ c) else bs
/-- What comes of putting the block at o. -/
def putB (bs : List UInt8) (o : Int) : Option (List UInt8) :=
  if freeI bs o < 0 then none else
  let c := (freeI bs o).toNat
  let f := wordN bs (8 + 8 * c)
  if (f : Int) = o ∨ (f ≠ 0 ∧ memberB bs f (c : Int) = false) then none else
  let b1 := lyN (lyN bs (o.toNat + 8) f) (o.toNat + 16) 0
  let b2 := if f ≠ 0 then lyN b1 (f + 16) o.toNat else b1
  some (markB (lyN b2 (8 + 8 * c) o.toNat) c)
/-- What comes of taking the block at o (who had it as next has its next, and so has the class's number, if it was the first: in a list that is broken both may be). -/
def takeB (bs : List UInt8) (o : Int) : Option (List UInt8) :=
  if freeI bs o < 0 then none else
  let c := (freeI bs o).toNat
  let n := wordN bs (o.toNat + 8)
  let p := wordN bs (o.toNat + 16)
  if p = 0 ∧ (wordN bs (8 + 8 * c) : Int) ≠ o then none
  else if p ≠ 0 ∧ (memberB bs p (c : Int) = false ∨ (wordN bs (p + 8) : Int) ≠ o) then none
  else if n ≠ 0 ∧ (memberB bs n (c : Int) = false ∨ (wordN bs (n + 16) : Int) ≠ o) then none
  else
    let b1 := if p = 0 then lyN bs (8 + 8 * c) n else lyN bs (p + 8) n
    let b2 := if n ≠ 0 then lyN b1 (n + 16) p else b1
    let b3 := if p ≠ 0 ∧ (wordN bs (8 + 8 * c) : Int) = o then lyN b2 (8 + 8 * c) n else b2
    some (markB b3 c)
/-- All of a class, from one on. -/
def allF (bs : List UInt8) (c : Nat) : Nat → Nat → Nat → Option (List Nat)
  | k, last, p => if p = 0 then some [] else match k with
    | 0 => none
    | k + 1 => if memberB bs p (c : Int) = true ∧ wordN bs (p + 16) = last then (allF bs c k p (wordN bs (p + 8))).map (p :: ·) else none
def allB (bs : List UInt8) (c : Nat) : Option (List Nat) :=
  if bs.length < 184 then none
  else if bitN (wordN bs 0) c ≠ decide (wordN bs (8 + 8 * c) ≠ 0) then none
  else allF bs c 1024 0 (wordN bs (8 + 8 * c))

/-- Blocks that stand, apart from each other. -/
structure Stands (bs : List UInt8) (P : List Bk) : Prop where
  at_ : ∀ x ∈ P, getB bs (x.off : Int) = some x
  apart : ∀ x ∈ P, ∀ y ∈ P, x = y ∨ x.off + x.size ≤ y.off ∨ y.off + y.size ≤ x.off
/-- The numbers of a list's blocks, one behind the other: p is ahead of it, n behind. -/
def link (bs : List UInt8) : Nat → List Nat → Nat → Prop
  | _, [], _ => True
  | p, o :: r, n => wordN bs (o + 16) = p ∧ wordN bs (o + 8) = r.headD n ∧ link bs o r n
/-- The lists of all classes, of blocks out of P. -/
structure Lists (bs : List UInt8) (P : List Bk) (L : Nat → List Nat) : Prop where
  len : 184 ≤ bs.length
  small : bs.length ≤ 16384
  st : Stands bs P
  head : ∀ c, c < 22 → wordN bs (8 + 8 * c) = (L c).headD 0
  bit : ∀ c, c < 22 → bitN (wordN bs 0) c = !(L c).isEmpty
  mem : ∀ c, c < 22 → ∀ o ∈ L c, ∃ x ∈ P, x.off = o ∧ x.used = false ∧ classI x.size = (c : Int)
  links : ∀ c, c < 22 → link bs 0 (L c) 0
  nodup : ∀ c, c < 22 → (L c).Nodup

theorem link_append (bs : List UInt8) (l1 l2 : List Nat) (p n : Nat) : link bs p (l1 ++ l2) n ↔ link bs p l1 (l2.headD n) ∧ link bs (l1.getLastD p) l2 n := by
  induction l1 generalizing p with
  | nil => simp [link]
  | cons o r ih =>
    have e : (r ++ l2).headD n = r.headD (l2.headD n) := by cases r <;> rfl
    have e2 : (o :: r).getLastD p = r.getLastD o := by cases r <;> rfl
    simp only [List.cons_append, link, e, e2, ih]
    constructor
    · rintro ⟨a, b, c, d⟩; exact ⟨⟨a, b, c⟩, d⟩
    · rintro ⟨⟨a, b, c⟩, d⟩; exact ⟨a, b, c, d⟩
theorem link_congr {bs bs' : List UInt8} : ∀ (l : List Nat) (p n : Nat), (∀ o ∈ l, wordN bs' (o + 16) = wordN bs (o + 16) ∧ wordN bs' (o + 8) = wordN bs (o + 8)) → link bs p l n → link bs' p l n
  | [], _, _, _, _ => trivial
  | o :: r, p, n, h, hl => by
    obtain ⟨h1, h2⟩ := h o (by simp)
    obtain ⟨a, b, c⟩ := hl
    exact ⟨h1.trans a, h2.trans b, link_congr r o n (fun q hq => h q (by simp [hq])) c⟩

section
variable {bs : List UInt8} {P : List Bk} {L : Nat → List Nat}
theorem Stands.facts (h : Stands bs P) {x : Bk} (hx : x ∈ P) : 184 ≤ x.off ∧ x.off % 16 = 8 ∧ x.off + x.size ≤ bs.length ∧ 32 ≤ x.size ∧ x.size % 16 = 0 ∧ isSz (x.size : Int) = true := by
  obtain ⟨_, g1, g2, g3, g4, _⟩ := getB_some (h.at_ x hx)
  have := (isSz_iff _).1 g4
  exact ⟨g1, g2, g3, by omega, by omega, g4⟩
theorem Stands.uniq (h : Stands bs P) {x y : Bk} (hx : x ∈ P) (hy : y ∈ P) (e : x.off = y.off) : x = y := by
  have h1 := h.at_ x hx
  rw [e, h.at_ y hy] at h1
  injection h1 with h1
  exact h1.symm
/-- A number laid into the head, or between a block's tags, moves no block. -/
theorem Stands.lay (h : Stands bs P) (q v : Nat) (hq : q + 8 ≤ 184 ∨ ∃ y ∈ P, y.off + 8 ≤ q ∧ q + 8 ≤ y.off + y.size - 8) (hl : 184 ≤ bs.length) : Stands (lyN bs q v) P := by
  have hqb : q + 8 ≤ bs.length := by
    rcases hq with hq | ⟨y, hy, h1, h2⟩
    · omega
    · have := h.facts hy; omega
  refine ⟨fun x hx => ?_, h.apart⟩
  have hf := h.facts hx
  refine getB_congr bs _ x (lyN_length _ _ _ hqb) (h.at_ x hx) (wordN_other _ _ _ _ hqb ?_) (wordN_other _ _ _ _ hqb ?_)
  · rcases hq with hq | ⟨y, hy, h1, h2⟩
    · omega
    · have hy' := h.facts hy
      rcases h.apart x hx y hy with rfl | h3 | h3
      · omega
      · omega
      · omega
  · rcases hq with hq | ⟨y, hy, h1, h2⟩
    · omega
    · have hy' := h.facts hy
      rcases h.apart x hx y hy with rfl | h3 | h3
      · omega
      · omega
      · omega
theorem Lists.member (h : Lists bs P L) {c o : Nat} (hc : c < 22) (ho : o ∈ L c) : memberB bs o (c : Int) = true ∧ ∃ x ∈ P, x.off = o ∧ x.used = false ∧ classI x.size = (c : Int) := by
  obtain ⟨x, hx, rfl, hu, hcl⟩ := h.mem c hc o ho
  have hf := h.st.facts hx
  have hs := h.small
  refine ⟨?_, x, hx, rfl, hu, hcl⟩
  unfold memberB
  rw [h.st.at_ x hx]
  simp [hu, hcl]
  omega
theorem allF_link (h : Lists bs P L) {c : Nat} (hc : c < 22) : ∀ (l : List Nat) (k p : Nat), (∀ o ∈ l, o ∈ L c) → l.length ≤ k → link bs p l 0 → allF bs c k p (l.headD 0) = some l
  | [], k, _, _, _, _ => by cases k <;> simp [allF]
  | o :: r, 0, _, _, hk, _ => by simp at hk
  | o :: r, k + 1, p, hm, hk, hl => by
    obtain ⟨l1, l2, l3⟩ := hl
    obtain ⟨m1, x, hx, rfl, _⟩ := h.member hc (hm o (by simp))
    have hf := h.st.facts hx
    have ih := allF_link h hc r k x.off (fun q hq => hm q (by simp [hq])) (by simpa using hk) l3
    show allF bs c (k + 1) p x.off = _
    unfold allF
    rw [if_neg (by omega)]
    dsimp only
    rw [if_pos ⟨m1, l1⟩, l2, ih]
    rfl
/-- All of a class are its list. -/
theorem Lists.all (h : Lists bs P L) {c : Nat} (hc : c < 22) (hl : (L c).length ≤ 1024) : allB bs c = some (L c) := by
  have hlen := h.len
  unfold allB
  rw [if_neg (by omega), h.head c hc, h.bit c hc]
  have e : (!(L c).isEmpty) = decide ((L c).headD 0 ≠ 0) := by
    cases hL : L c with
    | nil => rfl
    | cons o r =>
      obtain ⟨_, x, hx, e, _⟩ := h.member hc (o := o) (by rw [hL]; simp)
      have hf := h.st.facts hx
      have : o ≠ 0 := by omega
      simp [this]
  rw [if_neg (by rw [e]; simp)]
  exact allF_link h hc (L c) 1024 0 (fun _ h => h) hl (h.links c hc)
end

theorem wordN_ly (bs : List UInt8) (q v p : Nat) (h : q + 8 ≤ bs.length) (hv : v < 18446744073709551616) (hp : p % 8 = 0) (hq : q % 8 = 0) : wordN (lyN bs q v) p = if p = q then v else wordN bs p := by
  by_cases e : p = q
  · rw [if_pos e, e]; exact wordN_same bs q v h hv
  · rw [if_neg e]; exact wordN_other bs q v p h (by omega)
/-- What markB comes to. -/
theorem markB_spec (bs : List UInt8) (c : Nat) (hc : c < 22) (hl : 184 ≤ bs.length) :
    (markB bs c).length = bs.length ∧ (∀ p, p % 8 = 0 → p ≠ 0 → wordN (markB bs c) p = wordN bs p) ∧ (∀ d, bitN (wordN (markB bs c) 0) d = if d = c then decide (wordN bs (8 + 8 * c) ≠ 0) else bitN (wordN bs 0) d) ∧
    (∀ P, Stands bs P → Stands (markB bs c) P) ∧ ∀ i, 8 ≤ i → (markB bs c)[i]? = bs[i]? := by
  have hw := wordN_lt bs 0
  unfold markB
  by_cases h1 : bitN (wordN bs 0) c = true ∧ wordN bs (8 + 8 * c) = 0
  · rw [if_pos h1]
    have hv : wordN bs 0 - 2 ^ c < 18446744073709551616 := Nat.lt_of_le_of_lt (Nat.sub_le _ _) hw
    refine ⟨lyN_length _ _ _ (by omega), fun p hp h0 => ?_, fun d => ?_, fun P hP => hP.lay 0 _ (.inl (by omega)) hl, fun i hi => lyN_get _ _ _ _ (by omega) (by omega)⟩
    · rw [wordN_ly _ _ _ _ (by omega) hv hp rfl, if_neg h0]
    · rw [wordN_same _ _ _ (by omega) hv, bitN_sub _ _ h1.1, h1.2]
      simp
  · rw [if_neg h1]
    by_cases h2 : bitN (wordN bs 0) c = false ∧ wordN bs (8 + 8 * c) ≠ 0
    · rw [if_pos h2]
      have hv := bitN_lt (wordN bs 0) c (by omega) hw h2.1
      refine ⟨lyN_length _ _ _ (by omega), fun p hp h0 => ?_, fun d => ?_, fun P hP => hP.lay 0 _ (.inl (by omega)) hl, fun i hi => lyN_get _ _ _ _ (by omega) (by omega)⟩
      · rw [wordN_ly _ _ _ _ (by omega) hv hp rfl, if_neg h0]
      · rw [wordN_same _ _ _ (by omega) hv, bitN_add _ _ h2.1]
        simp [h2.2]
    · rw [if_neg h2]
      refine ⟨rfl, fun _ _ _ => rfl, fun d => ?_, fun P hP => hP, fun _ _ => rfl⟩
      by_cases hd : d = c
      · rw [if_pos hd, hd]
        cases hb : bitN (wordN bs 0) c with
        | true =>
          have : wordN bs (8 + 8 * c) ≠ 0 := fun e => h1 ⟨hb, e⟩
          simp [this]
        | false =>
          have : wordN bs (8 + 8 * c) = 0 := by
            rcases Nat.eq_zero_or_pos (wordN bs (8 + 8 * c)) with e | e
            · exact e
            · exact absurd ⟨hb, by omega⟩ h2
          simp [this]
      · rw [if_neg hd]
/-- All that isn't the head, nor a free block's numbers. -/
def Kept (P : List Bk) (bs bs' : List UInt8) : Prop := ∀ i, 184 ≤ i → (∀ y ∈ P, y.used = false → i < y.off + 8 ∨ y.off + 24 ≤ i) → bs'[i]? = bs[i]?
theorem Kept.refl (P : List Bk) (bs : List UInt8) : Kept P bs bs := fun _ _ _ => rfl
theorem Kept.trans {P : List Bk} {b1 b2 b3 : List UInt8} (h : Kept P b1 b2) (k : Kept P b2 b3) : Kept P b1 b3 := fun i h1 h2 => (k i h1 h2).trans (h i h1 h2)
theorem Kept.ly (P : List Bk) (bs : List UInt8) (q v : Nat) (h : q + 8 ≤ bs.length) (hq : q + 8 ≤ 184 ∨ ∃ y ∈ P, y.used = false ∧ (q = y.off + 8 ∨ q = y.off + 16)) : Kept P bs (lyN bs q v) := fun i h1 h2 => by
  refine lyN_get _ _ _ _ h ?_
  rcases hq with hq | ⟨y, hy, hu, hq⟩
  · omega
  · have := h2 y hy hu
    omega
/-- The lists with one of them another. -/
def setL (L : Nat → List Nat) (c : Nat) (l : List Nat) (d : Nat) : List Nat := if d = c then l else L d

section
variable {bs : List UInt8} {P : List Bk} {L : Nat → List Nat}
theorem class_nat {x : Bk} (hs : isSz (x.size : Int) = true) : ∃ c : Nat, classI (x.size : Int) = (c : Int) ∧ c < 22 := by
  have h1 := classI_bounds (x.size : Int)
  have h2 : ¬ classI (x.size : Int) < 0 := by rw [classI_neg]; simp [hs]
  exact ⟨(classI (x.size : Int)).toNat, by omega, by omega⟩
theorem Lists.put (h : Lists bs P L) {x : Bk} (hx : x ∈ P) (hu : x.used = false) {c : Nat} (hc : classI (x.size : Int) = (c : Int)) (hc22 : c < 22) (hn : x.off ∉ L c) :
    ∃ bs', putB bs (x.off : Int) = some bs' ∧ Lists bs' P (setL L c (x.off :: L c)) ∧ bs'.length = bs.length ∧ Kept P bs bs' := by
  have hf := h.st.facts hx
  have hlen := h.len
  have hsm := h.small
  have hfr : freeI bs (x.off : Int) = (c : Int) := by unfold freeI; rw [h.st.at_ x hx]; simp [hu, hc]
  have hhead := h.head c hc22
  obtain ⟨f, hfe⟩ : ∃ f, wordN bs (8 + 8 * c) = f := ⟨_, rfl⟩
  have hflt : f < 18446744073709551616 := by rw [← hfe]; exact wordN_lt _ _
  rw [hfe] at hhead
  -- what the first one is
  have hcase : (L c = [] ∧ f = 0) ∨ ∃ y ∈ P, ∃ r, L c = f :: r ∧ y.off = f ∧ y.used = false ∧ memberB bs f (c : Int) = true := by
    cases hL : L c with
    | nil => left; rw [hL] at hhead; exact ⟨rfl, hhead⟩
    | cons o r =>
      right
      rw [hL] at hhead
      obtain rfl : f = o := hhead
      obtain ⟨m1, y, hy, e, yu, _⟩ := h.member hc22 (o := f) (by rw [hL]; simp)
      exact ⟨y, hy, r, rfl, e, yu, m1⟩
  have hput : putB bs (x.off : Int) = some (markB (lyN (if f ≠ 0 then lyN (lyN (lyN bs (x.off + 8) f) (x.off + 16) 0) (f + 16) x.off else lyN (lyN bs (x.off + 8) f) (x.off + 16) 0) (8 + 8 * c) x.off) c) := by
    unfold putB
    rw [hfr, if_neg (by omega)]
    simp only [Int.toNat_natCast, hfe]
    rw [if_neg]
    rintro (e | ⟨e1, e2⟩)
    · rcases hcase with ⟨_, e0⟩ | ⟨y, hy, r, hL, _⟩
      · omega
      · exact hn (by rw [hL, show x.off = f by omega]; simp)
    · rcases hcase with ⟨_, e0⟩ | ⟨y, hy, r, hL, _, _, m⟩
      · exact e1 e0
      · rw [m] at e2; cases e2
  obtain ⟨b1, hb1⟩ : ∃ b1, lyN (lyN bs (x.off + 8) f) (x.off + 16) 0 = b1 := ⟨_, rfl⟩
  have l0 : (lyN bs (x.off + 8) f).length = bs.length := lyN_length _ _ _ (by omega)
  have l1 : b1.length = bs.length := by rw [← hb1, lyN_length _ _ _ (by omega)]; exact l0
  have st1 : Stands b1 P := by
    rw [← hb1]
    exact (h.st.lay (x.off + 8) f (.inr ⟨x, hx, by omega, by omega⟩) hlen).lay _ _ (.inr ⟨x, hx, by omega, by omega⟩) (by omega)
  have w1 : ∀ p, p % 8 = 0 → wordN b1 p = if p = x.off + 16 then 0 else if p = x.off + 8 then f else wordN bs p := fun p hp => by
    rw [← hb1, wordN_ly _ _ _ _ (by omega) (by omega) hp (by omega), wordN_ly _ _ _ _ (by omega) hflt hp (by omega)]
  have k1 : Kept P bs b1 := by
    rw [← hb1]
    exact (Kept.ly P bs _ _ (by omega) (.inr ⟨x, hx, hu, .inl rfl⟩)).trans (Kept.ly P _ _ _ (by omega) (.inr ⟨x, hx, hu, .inr rfl⟩))
  rw [hb1] at hput
  obtain ⟨b2, hb2⟩ : ∃ b2, (if f ≠ 0 then lyN b1 (f + 16) x.off else b1) = b2 := ⟨_, rfl⟩
  have hb2f : b2.length = bs.length ∧ Stands b2 P ∧ (∀ p, p % 8 = 0 → wordN b2 p = if f ≠ 0 ∧ p = f + 16 then x.off else wordN b1 p) ∧ Kept P b1 b2 := by
    rcases hcase with ⟨_, e0⟩ | ⟨y, hy, r, hL, hyf, hyu, _⟩
    · rw [if_neg (by omega)] at hb2
      subst hb2
      exact ⟨l1, st1, fun p _ => by rw [if_neg (by omega)], Kept.refl _ _⟩
    · have hy' := h.st.facts hy
      rw [if_pos (by omega)] at hb2
      subst hb2
      refine ⟨by rw [lyN_length _ _ _ (by omega)]; exact l1, st1.lay _ _ (.inr ⟨y, hy, by omega, by omega⟩) (by omega), fun p hp => ?_, Kept.ly P _ _ _ (by omega) (.inr ⟨y, hy, hyu, .inr (by omega)⟩)⟩
      rw [wordN_ly _ _ _ _ (by omega) (by omega) hp (by omega)]
      by_cases e : p = f + 16
      · rw [if_pos e, if_pos ⟨by omega, e⟩]
      · rw [if_neg e, if_neg (fun h => e h.2)]
  obtain ⟨l2, st2, w2, k2⟩ := hb2f
  rw [hb2] at hput
  obtain ⟨b3, hb3⟩ : ∃ b3, lyN b2 (8 + 8 * c) x.off = b3 := ⟨_, rfl⟩
  have l3 : b3.length = bs.length := by rw [← hb3, lyN_length _ _ _ (by omega)]; exact l2
  have st3 : Stands b3 P := by rw [← hb3]; exact st2.lay _ _ (.inl (by omega)) (by omega)
  have w3 : ∀ p, p % 8 = 0 → wordN b3 p = if p = 8 + 8 * c then x.off else wordN b2 p := fun p hp => by
    rw [← hb3, wordN_ly _ _ _ _ (by omega) (by omega) hp (by omega)]
  have k3 : Kept P b2 b3 := by rw [← hb3]; exact Kept.ly P _ _ _ (by omega) (.inl (by omega))
  rw [hb3] at hput
  obtain ⟨m1, m2, m3, m4, m5⟩ := markB_spec b3 c hc22 (by omega)
  refine ⟨_, hput, ⟨by omega, by omega, m4 P st3, fun d hd => ?_, fun d hd => ?_, fun d hd o ho => ?_, fun d hd => ?_, fun d hd => ?_⟩, by omega, ((k1.trans k2).trans k3).trans fun i h1 _ => m5 i (by omega)⟩
  · -- the first of each class
    rw [m2 _ (by omega) (by omega), w3 _ (by omega)]
    unfold setL
    by_cases hdc : d = c
    · rw [if_pos (by omega), if_pos hdc]; rfl
    · rw [if_neg (by omega), if_neg hdc, w2 _ (by omega), ← h.head d hd]
      have hn1 : ¬ (f ≠ 0 ∧ 8 + 8 * d = f + 16) := by
        rintro ⟨h1, h2⟩
        rcases hcase with ⟨_, e0⟩ | ⟨y, hy, _, _, hyf, _⟩
        · exact h1 e0
        · have := h.st.facts hy; omega
      rw [if_neg hn1, w1 _ (by omega), if_neg (by omega), if_neg (by omega)]
  · -- the bits
    rw [m3 d]
    unfold setL
    by_cases hdc : d = c
    · rw [if_pos hdc, if_pos hdc, w3 _ (by omega), if_pos rfl]
      have : x.off ≠ 0 := by omega
      simp [this]
    · rw [if_neg hdc, if_neg hdc, ← h.bit d hd, w3 _ rfl, if_neg (by omega), w2 _ rfl]
      have hn1 : ¬ (f ≠ 0 ∧ 0 = f + 16) := by omega
      rw [if_neg hn1, w1 _ rfl, if_neg (by omega), if_neg (by omega)]
  · -- the members
    unfold setL at ho
    by_cases hdc : d = c
    · subst hdc
      rw [if_pos rfl] at ho
      rcases List.mem_cons.1 ho with rfl | ho
      · exact ⟨x, hx, rfl, hu, hc⟩
      · exact h.mem d hd o ho
    · rw [if_neg hdc] at ho
      exact h.mem d hd o ho
  · -- the links
    have hw : ∀ o, (∃ y ∈ P, y.off = o ∧ o ≠ x.off) → ∀ k, k = 8 ∨ k = 16 → wordN (markB b3 c) (o + k) = if f ≠ 0 ∧ o = f ∧ k = 16 then x.off else wordN bs (o + k) := by
      rintro o ⟨y, hy, rfl, hne⟩ k hk
      have hy' := h.st.facts hy
      have hap := h.st.apart x hx y hy
      have hne2 : y.off + k ≠ x.off + 8 ∧ y.off + k ≠ x.off + 16 := by
        rcases hap with e | e | e
        · rw [e] at hne; exact absurd rfl hne
        · omega
        · omega
      rw [m2 _ (by omega) (by omega), w3 _ (by omega), if_neg (by omega), w2 _ (by omega), w1 _ (by omega), if_neg hne2.2, if_neg hne2.1]
      by_cases e : f ≠ 0 ∧ y.off = f ∧ k = 16
      · rw [if_pos e, if_pos ⟨e.1, by omega⟩]
      · rw [if_neg e, if_neg]
        rintro ⟨e1, e2⟩
        rcases hcase with ⟨_, e0⟩ | ⟨z, hz, r, hL, hzf, _⟩
        · exact e1 e0
        · have hz' := h.st.facts hz
          refine e ⟨e1, ?_, ?_⟩
          · omega
          · omega
    unfold setL
    by_cases hdc : d = c
    · subst hdc
      rw [if_pos rfl]
      refine ⟨?_, ?_, ?_⟩
      · rw [m2 _ (by omega) (by omega), w3 _ (by omega), if_neg (by omega), w2 _ (by omega)]
        rw [if_neg (by
          rintro ⟨e1, e2⟩
          rcases hcase with ⟨_, e0⟩ | ⟨z, hz, r, hL, hzf, _⟩
          · exact e1 e0
          · exact hn (by rw [hL, show x.off = f by omega]; simp)), w1 _ (by omega), if_pos rfl]
      · rw [m2 _ (by omega) (by omega), w3 _ (by omega), if_neg (by omega), w2 _ (by omega)]
        rw [if_neg (by
          rintro ⟨e1, e2⟩
          rcases hcase with ⟨_, e0⟩ | ⟨z, hz, r, hL, hzf, _⟩
          · exact e1 e0
          · have hz' := h.st.facts hz
            have hap := h.st.apart x hx z hz
            rcases hap with e | e | e
            · rw [e] at e2; omega
            · omega
            · omega), w1 _ (by omega), if_neg (by omega), if_pos rfl]
        rw [hhead]
      · have hl := h.links d hd
        cases hL : L d with
        | nil => trivial
        | cons o r =>
          rw [hL] at hl hhead
          obtain rfl : f = o := hhead
          obtain ⟨_, l2', l3'⟩ := hl
          have hof : ∃ y ∈ P, y.off = f ∧ f ≠ x.off := by
            obtain ⟨y, hy, e, _⟩ := h.mem d hd f (by rw [hL]; simp)
            exact ⟨y, hy, e, fun e2 => hn (by rw [hL, e2]; simp)⟩
          have hf0 : f ≠ 0 := by
            obtain ⟨y, hy, e, _⟩ := hof
            have := h.st.facts hy; omega
          refine ⟨?_, ?_, ?_⟩
          · rw [hw f hof 16 (.inr rfl), if_pos ⟨hf0, rfl, rfl⟩]
          · rw [hw f hof 8 (.inl rfl), if_neg (by omega)]; exact l2'
          · refine link_congr r _ _ (fun q hq => ?_) l3'
            have hnd := h.nodup d hd
            rw [hL] at hnd
            have hqf : q ≠ f := fun e => (List.nodup_cons.1 hnd).1 (e ▸ hq)
            have hqo : ∃ y ∈ P, y.off = q ∧ q ≠ x.off := by
              obtain ⟨y, hy, e, _⟩ := h.mem d hd q (by rw [hL]; simp [hq])
              exact ⟨y, hy, e, fun e2 => hn (by rw [hL, ← e2]; simp [hq])⟩
            rw [hw q hqo 16 (.inr rfl), hw q hqo 8 (.inl rfl), if_neg (by omega), if_neg (by omega)]
            exact ⟨rfl, rfl⟩
    · rw [if_neg hdc]
      refine link_congr (L d) _ _ (fun q hq => ?_) (h.links d hd)
      obtain ⟨y, hy, e, _, hcl⟩ := h.mem d hd q hq
      have hqx : q ≠ x.off := fun e2 => by
        have := h.st.uniq hy hx (by omega)
        subst this
        rw [hc] at hcl; omega
      have hqf : ¬ (f ≠ 0 ∧ q = f ∧ (16 : Nat) = 16) := by
        rintro ⟨e1, e2, _⟩
        rcases hcase with ⟨_, e0⟩ | ⟨z, hz, r, hL, hzf, _⟩
        · exact e1 e0
        · obtain ⟨z2, hz2, e3, _, hcl2⟩ := h.mem c hc22 f (by rw [hL]; simp)
          have := h.st.uniq hy hz2 (by omega)
          subst this
          rw [hcl] at hcl2; omega
      rw [hw q ⟨y, hy, e, hqx⟩ 16 (.inr rfl), hw q ⟨y, hy, e, hqx⟩ 8 (.inl rfl), if_neg hqf, if_neg (by omega)]
      exact ⟨rfl, rfl⟩
  · unfold setL
    by_cases hdc : d = c
    · subst hdc
      rw [if_pos rfl]
      exact List.nodup_cons.2 ⟨hn, h.nodup d hd⟩
    · rw [if_neg hdc]; exact h.nodup d hd
end
end Go.Proofs.YtbldlidpapdkbaaGreatDoor

/- One bit of a number: and, or, and not; what marks a class. No program in sight. -/
namespace Go.Proofs.YtbldlidpapdkbaaGreatDoor

theorem bitN_test (w c : Nat) : bitN w c = w.testBit c := by
  unfold bitN
  rw [Nat.testBit_eq_decide_div_mod_eq, Bool.eq_iff_iff, beq_iff_eq, decide_eq_true_eq]
theorem pow22 (c : Nat) (hc : c < 22) : 2 ^ c ≤ 2097152 := Nat.pow_le_pow_right (n := 2) (by decide) (show c ≤ 21 by omega)
/-- A number with one of its bits so. -/
def bitTo (v c : Nat) (b : Bool) : Nat := if b then (if bitN v c then v else v + 2 ^ c) else (if bitN v c then v - 2 ^ c else v)
theorem bitTo_lt (v c : Nat) (hc : c < 22) (hv : v < 18446744073709551616) (b : Bool) : bitTo v c b < 18446744073709551616 := by
  unfold bitTo
  cases hb : bitN v c with
  | true =>
    have := Nat.sub_le v (2 ^ c)
    cases b <;> simp <;> omega
  | false =>
    have := bitN_lt v c (by omega) hv hb
    cases b <;> simp <;> omega
theorem bitTo_off (v c : Nat) : bitN (bitTo v c false) c = false := by
  unfold bitTo
  cases hb : bitN v c with
  | true => simpa using bitN_sub_c v c hb
  | false => simpa using hb
theorem bitTo_on (v c : Nat) : bitTo v c true = bitTo v c false + 2 ^ c := by
  unfold bitTo
  cases hb : bitN v c with
  | true =>
    have := bitN_ge v c hb
    simp
    omega
  | false => simp
theorem and_bit (v c : Nat) (hv : v < 18446744073709551616) (hc : c < 22) : (bits .and .u64 (v : Int) ((2 ^ c : Nat) : Int) != 0) = bitN v c := by
  have hp : 0 < 2 ^ c := Nat.two_pow_pos c
  rw [u64_and_nat v (2 ^ c) hv (by have := pow22 c hc; omega), nat_bit]
  unfold bitN
  have h : v / 2 ^ c % 2 = 0 ∨ v / 2 ^ c % 2 = 1 := by omega
  rcases h with h | h
  · rw [h]; simp
  · rw [h, Nat.one_mul, Bool.eq_iff_iff, bne_iff_ne]
    simp only [beq_self_eq_true, iff_true]
    omega
theorem andnot_bit (v c : Nat) (hv : v < 18446744073709551616) (hc : c < 22) : bits .andNot .u64 (v : Int) ((2 ^ c : Nat) : Int) = (bitTo v c false : Int) := by
  have h22 := pow22 c hc
  rw [u64_andNot_nat v (2 ^ c) hv (by omega)]
  refine congrArg Int.ofNat (Nat.eq_of_testBit_eq fun d => ?_)
  have e : 18446744073709551615 - 2 ^ c = 2 ^ 64 - (2 ^ c + 1) := by omega
  rw [Nat.testBit_and, e, Nat.testBit_two_pow_sub_succ (by omega), Nat.testBit_two_pow]
  unfold bitTo
  have hbig : 64 ≤ d → v.testBit d = false := fun h => Nat.testBit_lt_two_pow (Nat.lt_of_lt_of_le hv (Nat.pow_le_pow_right (n := 2) (by decide) h))
  cases hb : bitN v c with
  | true =>
    have h2 := bitN_sub v c hb d
    rw [bitN_test, bitN_test] at h2
    simp only [if_true, Bool.false_eq_true, if_false]
    rw [h2]
    by_cases hd : d = c
    · rw [if_pos hd, hd]; simp
    · rw [if_neg hd]
      by_cases h64 : d < 64
      · simp [h64, Ne.symm hd]
      · rw [hbig (by omega)]; simp
  | false =>
    simp only [Bool.false_eq_true, if_false]
    by_cases hd : d = c
    · rw [bitN_test] at hb
      rw [hd, hb]; simp
    · by_cases h64 : d < 64
      · simp [h64, Ne.symm hd]
      · rw [hbig (by omega)]; simp
theorem or_bit (v c : Nat) (hv : v < 18446744073709551616) (hc : c < 22) (hb : bitN v c = false) : bits .or .u64 (v : Int) ((2 ^ c : Nat) : Int) = ((v + 2 ^ c : Nat) : Int) := by
  have h22 := pow22 c hc
  rw [u64_or_nat v (2 ^ c) hv (by omega)]
  refine congrArg Int.ofNat (Nat.eq_of_testBit_eq fun d => ?_)
  have h2 := bitN_add v c hb d
  rw [bitN_test, bitN_test] at h2
  rw [Nat.testBit_or, Nat.testBit_two_pow, h2]
  by_cases hd : d = c
  · rw [if_pos hd, hd]; simp
  · rw [if_neg hd]; simp [Ne.symm hd]
theorem lyN_self (bs : List UInt8) (o : Nat) (h : o + 8 ≤ bs.length) : lyN bs o (wordN bs o) = bs := by
  have e : lowB 8 (numB ((bs.drop o).take 8)) = (bs.drop o).take 8 := by
    have := lowB_numB ((bs.drop o).take 8)
    rwa [List.length_take, List.length_drop, Nat.min_eq_left (by omega)] at this
  unfold lyN wordN
  rw [e, ← List.drop_drop, List.take_append_drop, List.take_append_drop]
/-- What marks a class, all at once. -/
theorem markB_eq (bs : List UInt8) (c : Nat) (hl : 8 ≤ bs.length) : markB bs c = lyN bs 0 (bitTo (wordN bs 0) c (decide (wordN bs (8 + 8 * c) ≠ 0))) := by
  have hs := lyN_self bs 0 (by omega)
  unfold markB bitTo
  by_cases h0 : wordN bs (8 + 8 * c) = 0
  · cases hb : bitN (wordN bs 0) c <;> simp [h0, hs]
  · cases hb : bitN (wordN bs 0) c <;> simp [h0, hs]
/-- A member, by the class of what stands there. -/
theorem memberB_free (bs : List UInt8) (p c : Nat) : memberB bs p (c : Int) = (decide (p ≤ 20000) && (freeI bs (p : Int) == (c : Int))) := by
  unfold memberB freeI
  congr 1
  cases hg : getB bs (p : Int) with
  | none => simp
  | some x =>
    cases hu : x.used with
    | true => simp [hu]
    | false => simp [hu]
/-- Has a member this number there? -/
def memHas (bs : List UInt8) (c v k u : Nat) : Bool := memberB bs v (c : Int) && (wordN bs (v + k) == u)
theorem memberB_in {bs : List UInt8} {p c : Nat} (h : memberB bs p (c : Int) = true) : 184 ≤ p ∧ p + 32 ≤ bs.length := by
  unfold memberB at h
  cases hg : getB bs (p : Int) with
  | none => rw [hg] at h; simp at h
  | some y =>
    obtain ⟨r1, r2, _, r3, r4, _⟩ := getB_some hg
    have := (isSz_iff _).1 r4
    omega
theorem freeI_in {bs : List UInt8} {o : Int} {c : Nat} (h : freeI bs o = (c : Int)) : 184 ≤ o ∧ o + 32 ≤ bs.length ∧ c < 22 := by
  unfold freeI at h
  cases hg : getB bs o with
  | none => rw [hg] at h; dsimp only at h; omega
  | some y =>
    obtain ⟨r1, r2, _, r3, r4, _⟩ := getB_some hg
    have := (isSz_iff _).1 r4
    obtain ⟨d, hd, hd2⟩ := class_nat r4
    rw [hg] at h
    dsimp only at h
    split at h <;> omega
theorem freeI_cases (bs : List UInt8) (o : Int) : freeI bs o < 0 ∨ ∃ c : Nat, freeI bs o = (c : Int) := by
  by_cases h : freeI bs o < 0
  · exact .inl h
  · exact .inr ⟨(freeI bs o).toNat, by omega⟩
end Go.Proofs.YtbldlidpapdkbaaGreatDoor

/- Lists of free blocks in bytes: what Take comes to where the lists are right. No program in sight. -/
namespace Go.Proofs.YtbldlidpapdkbaaGreatDoor

section
variable {bs : List UInt8} {P : List Bk} {L : Nat → List Nat}
theorem Lists.take (h : Lists bs P L) {x : Bk} (hx : x ∈ P) {c : Nat} (hc22 : c < 22) (ho : x.off ∈ L c) :
    ∃ bs', takeB bs (x.off : Int) = some bs' ∧ Lists bs' P (setL L c ((L c).filter fun q => decide (q ≠ x.off))) ∧ bs'.length = bs.length ∧ Kept P bs bs' := by
  have hf := h.st.facts hx
  have hlen := h.len
  have hsm := h.small
  obtain ⟨hxu, hxc⟩ : x.used = false ∧ classI (x.size : Int) = (c : Int) := by
    obtain ⟨y, hy, e, hu, hcl⟩ := h.mem c hc22 x.off ho
    have := h.st.uniq hy hx e
    subst this
    exact ⟨hu, hcl⟩
  have hfr : freeI bs (x.off : Int) = (c : Int) := by unfold freeI; rw [h.st.at_ x hx]; simp [hxu, hxc]
  obtain ⟨l1, l2, hL⟩ := List.append_of_mem ho
  have hnd := h.nodup c hc22
  have hlk := h.links c hc22
  rw [hL] at hnd hlk
  have hn1 : x.off ∉ l1 := fun e => by
    have := (List.nodup_append.1 hnd).2.2 x.off e x.off (by simp)
    exact this rfl
  have hn2 : x.off ∉ l2 := (List.nodup_cons.1 (List.nodup_append.1 hnd).2.1).1
  have hnd12 : (l1 ++ l2).Nodup := by
    refine List.nodup_append.2 ⟨(List.nodup_append.1 hnd).1, (List.nodup_cons.1 (List.nodup_append.1 hnd).2.1).2, fun a ha b hb => ?_⟩
    exact (List.nodup_append.1 hnd).2.2 a ha b (by simp [hb])
  have hfil : (L c).filter (fun q => decide (q ≠ x.off)) = l1 ++ l2 := by
    rw [hL, List.filter_append, List.filter_cons_of_neg (by simp)]
    congr 1
    · exact List.filter_eq_self.2 fun a ha => by simpa using fun e : a = x.off => hn1 (e ▸ ha)
    · exact List.filter_eq_self.2 fun a ha => by simpa using fun e : a = x.off => hn2 (e ▸ ha)
  rw [hfil]
  rw [link_append] at hlk
  obtain ⟨hk1, hk2, hk3, hk4⟩ := hlk
  obtain ⟨p, hp⟩ : ∃ p, l1.getLastD 0 = p := ⟨_, rfl⟩
  obtain ⟨n, hn⟩ : ∃ n, l2.headD 0 = n := ⟨_, rfl⟩
  rw [hp] at hk2
  rw [hn] at hk3
  -- what is ahead, and what is behind
  have inP : ∀ q, q ∈ L c → memberB bs q (c : Int) = true ∧ ∃ y ∈ P, y.off = q ∧ y.used = false := fun q hq => by
    obtain ⟨m, y, hy, e, hu, _⟩ := h.member hc22 hq
    exact ⟨m, y, hy, e, hu⟩
  have hpc : (l1 = [] ∧ p = 0) ∨ ∃ l, l1 = l ++ [p] ∧ p ∈ L c ∧ p ≠ x.off := by
    rcases List.eq_nil_or_concat l1 with e | ⟨l, q, e⟩
    · left; subst e; exact ⟨rfl, hp.symm⟩
    · right
      subst e
      have : q = p := by rw [← hp]; simp
      subst this
      exact ⟨l, by simp, by rw [hL]; simp, fun e => hn1 (by rw [← e]; simp)⟩
  have hnc : (l2 = [] ∧ n = 0) ∨ ∃ r, l2 = n :: r ∧ n ∈ L c ∧ n ≠ x.off := by
    cases l2 with
    | nil => left; exact ⟨rfl, hn.symm⟩
    | cons q r =>
      right
      obtain rfl : q = n := hn
      exact ⟨r, rfl, by rw [hL]; simp, fun e => hn2 (by rw [← e]; simp)⟩
  have hpn : p ≠ 0 → n ≠ 0 → p ≠ n := fun e1 e2 e => by
    rcases hpc with ⟨_, e0⟩ | ⟨l, el, _⟩
    · exact e1 e0
    · rcases hnc with ⟨_, e0⟩ | ⟨r, er, _⟩
      · exact e2 e0
      · have := (List.nodup_append.1 hnd12).2.2 p (by rw [el]; simp) n (by rw [er]; simp)
        exact this e
  have hplt : p < 18446744073709551616 := by rw [← hk2]; exact wordN_lt _ _
  have hnlt : n < 18446744073709551616 := by rw [← hk3]; exact wordN_lt _ _
  have hfirst : ¬ (p ≠ 0 ∧ (wordN bs (8 + 8 * c) : Int) = (x.off : Int)) := by
    rintro ⟨e1, e2⟩
    rcases hpc with ⟨_, e0⟩ | ⟨l, el, _⟩
    · exact e1 e0
    · have hh := h.head c hc22
      rw [hL, el] at hh
      refine hn1 ?_
      rw [el]
      cases l with
      | nil =>
        have hh : wordN bs (8 + 8 * c) = p := hh
        rw [show x.off = p by omega]
        simp
      | cons q r =>
        have hh : wordN bs (8 + 8 * c) = q := hh
        rw [show x.off = q by omega]
        simp
  have hput : takeB bs (x.off : Int) = some (markB (if n ≠ 0 then lyN (if p = 0 then lyN bs (8 + 8 * c) n else lyN bs (p + 8) n) (n + 16) p else (if p = 0 then lyN bs (8 + 8 * c) n else lyN bs (p + 8) n)) c) := by
    unfold takeB
    rw [hfr, if_neg (by omega)]
    simp only [Int.toNat_natCast, hk2, hk3]
    rw [if_neg, if_neg, if_neg, if_neg hfirst]
    · rintro ⟨e1, e2⟩
      rcases hnc with ⟨_, e0⟩ | ⟨r, er, hm, _⟩
      · exact e1 e0
      · rcases e2 with e2 | e2
        · rw [(inP n hm).1] at e2; cases e2
        · rw [er] at hk4
          exact e2 (by rw [hk4.1])
    · rintro ⟨e1, e2⟩
      rcases hpc with ⟨_, e0⟩ | ⟨l, el, hm, _⟩
      · exact e1 e0
      · rcases e2 with e2 | e2
        · rw [(inP p hm).1] at e2; cases e2
        · rw [el, link_append] at hk1
          exact e2 (by rw [hk1.2.2.1]; rfl)
    · rintro ⟨e1, e2⟩
      rcases hpc with ⟨e0, _⟩ | ⟨l, el, hm, _⟩
      · have := h.head c hc22
        rw [hL, e0] at this
        exact e2 (by rw [this]; rfl)
      · obtain ⟨_, y, hy, e, _⟩ := inP p hm
        have := h.st.facts hy
        omega
  obtain ⟨b1, hb1⟩ : ∃ b1, (if p = 0 then lyN bs (8 + 8 * c) n else lyN bs (p + 8) n) = b1 := ⟨_, rfl⟩
  have f1 : b1.length = bs.length ∧ Stands b1 P ∧ (∀ q, q % 8 = 0 → wordN b1 q = if q = (if p = 0 then 8 + 8 * c else p + 8) then n else wordN bs q) ∧ Kept P bs b1 := by
    rcases hpc with ⟨_, e0⟩ | ⟨l, el, hm, _⟩
    · rw [if_pos e0] at hb1
      subst hb1
      refine ⟨lyN_length _ _ _ (by omega), h.st.lay _ _ (.inl (by omega)) hlen, fun q hq => ?_, Kept.ly P _ _ _ (by omega) (.inl (by omega))⟩
      rw [wordN_ly _ _ _ _ (by omega) hnlt hq (by omega), if_pos e0]
    · obtain ⟨_, y, hy, e, hu⟩ := inP p hm
      have hy' := h.st.facts hy
      have e0 : p ≠ 0 := by omega
      rw [if_neg e0] at hb1
      subst hb1
      refine ⟨lyN_length _ _ _ (by omega), h.st.lay _ _ (.inr ⟨y, hy, by omega, by omega⟩) hlen, fun q hq => ?_, Kept.ly P _ _ _ (by omega) (.inr ⟨y, hy, hu, .inl (by omega)⟩)⟩
      rw [wordN_ly _ _ _ _ (by omega) hnlt hq (by omega), if_neg e0]
  obtain ⟨g1, st1, w1, k1⟩ := f1
  rw [hb1] at hput
  obtain ⟨b2, hb2⟩ : ∃ b2, (if n ≠ 0 then lyN b1 (n + 16) p else b1) = b2 := ⟨_, rfl⟩
  have f2 : b2.length = bs.length ∧ Stands b2 P ∧ (∀ q, q % 8 = 0 → wordN b2 q = if n ≠ 0 ∧ q = n + 16 then p else wordN b1 q) ∧ Kept P b1 b2 := by
    rcases hnc with ⟨_, e0⟩ | ⟨r, er, hm, _⟩
    · rw [if_neg (by omega)] at hb2
      subst hb2
      exact ⟨g1, st1, fun q _ => by rw [if_neg (by omega)], Kept.refl _ _⟩
    · obtain ⟨_, y, hy, e, hu⟩ := inP n hm
      have hy' := h.st.facts hy
      have e0 : n ≠ 0 := by omega
      rw [if_pos e0] at hb2
      subst hb2
      refine ⟨by rw [lyN_length _ _ _ (by omega)]; exact g1, st1.lay _ _ (.inr ⟨y, hy, by omega, by omega⟩) (by omega), fun q hq => ?_, Kept.ly P _ _ _ (by omega) (.inr ⟨y, hy, hu, .inr (by omega)⟩)⟩
      rw [wordN_ly _ _ _ _ (by omega) hplt hq (by omega)]
      by_cases e2 : q = n + 16
      · rw [if_pos e2, if_pos ⟨e0, e2⟩]
      · rw [if_neg e2, if_neg (fun h => e2 h.2)]
  obtain ⟨g2, st2, w2, k2⟩ := f2
  rw [hb2] at hput
  obtain ⟨m1, m2, m3, m4, m5⟩ := markB_spec b2 c hc22 (by omega)
  have n184 : n = 0 ∨ (184 ≤ n ∧ n % 16 = 8) := by
    rcases hnc with ⟨_, e0⟩ | ⟨r, er, hm, _⟩
    · exact .inl e0
    · obtain ⟨_, y, hy, e, _⟩ := inP n hm
      have := h.st.facts hy; omega
  have p184 : p = 0 ∨ (184 ≤ p ∧ p % 16 = 8) := by
    rcases hpc with ⟨_, e0⟩ | ⟨r, er, hm, _⟩
    · exact .inl e0
    · obtain ⟨_, y, hy, e, _⟩ := inP p hm
      have := h.st.facts hy; omega
  have hhead : wordN b2 (8 + 8 * c) = (l1 ++ l2).headD 0 := by
    rw [w2 _ (by omega), if_neg (by omega), w1 _ (by omega)]
    have hh := h.head c hc22
    rw [hL] at hh
    rcases hpc with ⟨el, e0⟩ | ⟨l, el, _⟩
    · rw [if_pos e0, if_pos rfl, el, ← hn]; rfl
    · have e0 : p ≠ 0 := by
        rcases p184 with e | e
        · obtain ⟨_, y, hy, e2, _⟩ := inP p (by rw [hL, el]; simp)
          have := h.st.facts hy; omega
        · omega
      rw [if_neg e0, if_neg (by omega), hh, el]
      cases l <;> rfl
  have hw : ∀ o, (∃ y ∈ P, y.off = o) → ∀ k, k = 8 ∨ k = 16 → wordN (markB b2 c) (o + k) = if p ≠ 0 ∧ o = p ∧ k = 8 then n else if n ≠ 0 ∧ o = n ∧ k = 16 then p else wordN bs (o + k) := by
    rintro o ⟨y, hy, rfl⟩ k hk
    have hy' := h.st.facts hy
    rw [m2 _ (by omega) (by omega), w2 _ (by omega), w1 _ (by omega)]
    by_cases e1 : p ≠ 0 ∧ y.off = p ∧ k = 8
    · rw [if_pos e1, if_neg (by omega), if_pos (by rw [if_neg e1.1]; omega)]
    · rw [if_neg e1]
      by_cases e2 : n ≠ 0 ∧ y.off = n ∧ k = 16
      · rw [if_pos e2, if_pos (by omega)]
      · rw [if_neg e2, if_neg (by omega), if_neg]
        by_cases e0 : p = 0
        · rw [if_pos e0]; omega
        · rw [if_neg e0]; omega
  refine ⟨_, hput, ⟨by omega, by omega, m4 P st2, fun d hd => ?_, fun d hd => ?_, fun d hd o ho => ?_, fun d hd => ?_, fun d hd => ?_⟩, by omega, (k1.trans k2).trans fun i h1 _ => m5 i (by omega)⟩
  · rw [m2 _ (by omega) (by omega)]
    unfold setL
    by_cases hdc : d = c
    · subst hdc; rw [if_pos rfl]; exact hhead
    · rw [if_neg hdc, ← h.head d hd, w2 _ (by omega), if_neg (by omega), w1 _ (by omega), if_neg]
      by_cases e0 : p = 0
      · rw [if_pos e0]; omega
      · rw [if_neg e0]; omega
  · rw [m3 d]
    unfold setL
    by_cases hdc : d = c
    · rw [if_pos hdc, if_pos hdc, hhead]
      cases hl : l1 ++ l2 with
      | nil => rfl
      | cons q r =>
        have hq : q ∈ L c := by
          rw [hL]
          have : q ∈ l1 ++ l2 := by rw [hl]; simp
          rcases List.mem_append.1 this with h1 | h1
          · exact List.mem_append_left _ h1
          · exact List.mem_append_right _ (List.mem_cons_of_mem _ h1)
        obtain ⟨_, y, hy, e, _⟩ := inP q hq
        have := h.st.facts hy
        have h0 : q ≠ 0 := by omega
        simp [h0]
    · rw [if_neg hdc, if_neg hdc, ← h.bit d hd, w2 _ rfl, if_neg (by omega), w1 _ rfl, if_neg]
      by_cases e0 : p = 0
      · rw [if_pos e0]; omega
      · rw [if_neg e0]; omega
  · unfold setL at ho
    by_cases hdc : d = c
    · subst hdc
      rw [if_pos rfl] at ho
      refine h.mem d hd o ?_
      rw [hL]
      rcases List.mem_append.1 ho with h1 | h1
      · exact List.mem_append_left _ h1
      · exact List.mem_append_right _ (List.mem_cons_of_mem _ h1)
    · rw [if_neg hdc] at ho
      exact h.mem d hd o ho
  · unfold setL
    by_cases hdc : d = c
    · subst hdc
      rw [if_pos rfl, link_append, hp, hn]
      have inl1 : ∀ q ∈ l1, ∃ y ∈ P, y.off = q := fun q hq => by
        obtain ⟨_, y, hy, e, _⟩ := inP q (by rw [hL]; simp [hq])
        exact ⟨y, hy, e⟩
      have inl2 : ∀ q ∈ l2, ∃ y ∈ P, y.off = q := fun q hq => by
        obtain ⟨_, y, hy, e, _⟩ := inP q (by rw [hL]; simp [hq])
        exact ⟨y, hy, e⟩
      have ne12 : ∀ q ∈ l1, n ≠ 0 → q ≠ n := fun q hq e0 e => by
        rcases hnc with ⟨_, e1⟩ | ⟨r, er, _⟩
        · exact e0 e1
        · exact (List.nodup_append.1 hnd12).2.2 q hq n (by rw [er]; simp) e
      have ne21 : ∀ q ∈ l2, p ≠ 0 → q ≠ p := fun q hq e0 e => by
        rcases hpc with ⟨_, e1⟩ | ⟨l, el, _⟩
        · exact e0 e1
        · exact (List.nodup_append.1 hnd12).2.2 p (by rw [el]; simp) q hq e.symm
      refine ⟨?_, ?_⟩
      · rcases hpc with ⟨el, e0⟩ | ⟨l, el, _⟩
        · rw [el]; trivial
        · have e0 : p ≠ 0 := by
            obtain ⟨y, hy, e2⟩ := inl1 p (by rw [el]; simp)
            have := h.st.facts hy; omega
          rw [el, link_append] at hk1 ⊢
          obtain ⟨hq1, hq2, hq3, _⟩ := hk1
          have hpl : p ∉ l := fun e => by
            have := (List.nodup_append.1 hnd12).1
            rw [el] at this
            exact (List.nodup_append.1 this).2.2 p e p (by simp) rfl
          refine ⟨link_congr l _ _ (fun q hq => ?_) hq1, ?_, ?_, trivial⟩
          · have hqi := inl1 q (by rw [el]; simp [hq])
            have hqp : q ≠ p := fun e => hpl (e ▸ hq)
            have hqn := ne12 q (by rw [el]; simp [hq])
            rw [hw q hqi 16 (.inr rfl), hw q hqi 8 (.inl rfl), if_neg (by omega), if_neg (fun e => hqn e.1 e.2.1), if_neg (fun e => hqp e.2.1), if_neg (by omega)]
            exact ⟨rfl, rfl⟩
          · rw [hw p (inl1 p (by rw [el]; simp)) 16 (.inr rfl), if_neg (by omega), if_neg (fun e => hpn e0 e.1 e.2.1)]
            exact hq2
          · rw [hw p (inl1 p (by rw [el]; simp)) 8 (.inl rfl), if_pos ⟨e0, rfl, rfl⟩]
            rfl
      · rcases hnc with ⟨er, e0⟩ | ⟨r, er, _⟩
        · rw [er]; trivial
        · have e0 : n ≠ 0 := by
            obtain ⟨y, hy, e2⟩ := inl2 n (by rw [er]; simp)
            have := h.st.facts hy; omega
          rw [er] at hk4 ⊢
          obtain ⟨hq1, hq2, hq3⟩ := hk4
          have hnr : n ∉ r := fun e => by
            have := (List.nodup_append.1 hnd12).2.1
            rw [er] at this
            exact (List.nodup_cons.1 this).1 e
          refine ⟨?_, ?_, link_congr r _ _ (fun q hq => ?_) hq3⟩
          · rw [hw n (inl2 n (by rw [er]; simp)) 16 (.inr rfl), if_neg (by omega), if_pos ⟨e0, rfl, rfl⟩]
          · rw [hw n (inl2 n (by rw [er]; simp)) 8 (.inl rfl), if_neg (fun e => ne21 n (by rw [er]; simp) e.1 e.2.1), if_neg (by omega)]
            exact hq2
          · have hqi := inl2 q (by rw [er]; simp [hq])
            have hqn : q ≠ n := fun e => hnr (e ▸ hq)
            have hqp := ne21 q (by rw [er]; simp [hq])
            rw [hw q hqi 16 (.inr rfl), hw q hqi 8 (.inl rfl), if_neg (by omega), if_neg (fun e => hqn e.2.1), if_neg (fun e => hqp e.1 e.2.1), if_neg (by omega)]
            exact ⟨rfl, rfl⟩
    · rw [if_neg hdc]
      refine link_congr (L d) _ _ (fun q hq => ?_) (h.links d hd)
      obtain ⟨y, hy, e, _, hcl⟩ := h.mem d hd q hq
      have other : ∀ z, z ∈ L c → q ≠ z := fun z hz e2 => by
        obtain ⟨z2, hz2, e3, _, hcl2⟩ := h.mem c hc22 z hz
        have := h.st.uniq hy hz2 (by omega)
        subst this
        rw [hcl] at hcl2; omega
      have hqp : ¬ (p ≠ 0 ∧ q = p) := by
        rintro ⟨e1, e2⟩
        rcases hpc with ⟨_, e0⟩ | ⟨l, el, hm, _⟩
        · exact e1 e0
        · exact other p hm e2
      have hqn : ¬ (n ≠ 0 ∧ q = n) := by
        rintro ⟨e1, e2⟩
        rcases hnc with ⟨_, e0⟩ | ⟨l, el, hm, _⟩
        · exact e1 e0
        · exact other n hm e2
      rw [hw q ⟨y, hy, e⟩ 16 (.inr rfl), hw q ⟨y, hy, e⟩ 8 (.inl rfl), if_neg (fun e => hqp ⟨e.1, e.2.1⟩), if_neg (fun e => hqn ⟨e.1, e.2.1⟩), if_neg (fun e => hqp ⟨e.1, e.2.1⟩), if_neg (fun e => hqn ⟨e.1, e.2.1⟩)]
      exact ⟨rfl, rfl⟩
  · unfold setL
    by_cases hdc : d = c
    · rw [if_pos hdc]; exact hnd12
    · rw [if_neg hdc]; exact h.nodup d hd
end
end Go.Proofs.YtbldlidpapdkbaaGreatDoor

/- Blocks one behind the other: what comes of setting them all, of walking, of looking ahead. Plain facts, no program in sight. -/
namespace Go.Proofs.YtbldlidpapdkbaaGreatDoor

def tagN (x : Bk) : Nat := packN (x.size : Int) x.used
/-- Both tags of a block laid. -/
def setT (bs : List UInt8) (x : Bk) : List UInt8 := lyN (lyN bs x.off (tagN x)) (x.off + x.size - 8) (tagN x)
/-- One behind the other, from o to e. -/
def tile : Nat → List Bk → Nat → Prop
  | o, [], e => o = e
  | o, x :: r, e => x.off = o ∧ isSz (x.size : Int) = true ∧ tile (o + x.size) r e

theorem tile_mem : ∀ (l : List Bk) (o e : Nat), tile o l e → o ≤ e ∧ ∀ x ∈ l, o ≤ x.off ∧ x.off + x.size ≤ e ∧ isSz (x.size : Int) = true ∧ x.off % 16 = o % 16
  | [], o, e, h => ⟨Nat.le_of_eq h, fun x hx => by cases hx⟩
  | y :: r, o, e, ⟨h1, h2, h3⟩ => by
    obtain ⟨q, h⟩ := tile_mem r _ e h3
    have hs := (isSz_iff _).1 h2
    refine ⟨by omega, fun x hx => ?_⟩
    rcases List.mem_cons.1 hx with rfl | hx
    · exact ⟨by omega, by omega, h2, by omega⟩
    · obtain ⟨a, b, c, d⟩ := h x hx
      exact ⟨by omega, b, c, by omega⟩
theorem tile_snoc : ∀ (l : List Bk) (o e : Nat) (x : Bk), tile o l e → x.off = e → isSz (x.size : Int) = true → tile o (l ++ [x]) (e + x.size)
  | [], o, e, x, h, h1, h2 => ⟨by rw [h1]; exact h.symm, h2, by have : o = e := h; rw [this]; rfl⟩
  | y :: r, o, e, x, ⟨a, b, c⟩, h1, h2 => ⟨a, b, tile_snoc r _ e x c h1 h2⟩
/-- Two of them are the same, or apart. -/
theorem tile_apart : ∀ (l : List Bk) (o e : Nat), tile o l e → ∀ x ∈ l, ∀ y ∈ l, x = y ∨ x.off + x.size ≤ y.off ∨ y.off + y.size ≤ x.off
  | [], _, _, _, x, hx, _, _ => by cases hx
  | z :: r, o, e, ⟨h1, h2, h3⟩, x, hx, y, hy => by
    have hm := (tile_mem r _ e h3).2
    rcases List.mem_cons.1 hx with rfl | hx'
    · rcases List.mem_cons.1 hy with rfl | hy'
      · exact .inl rfl
      · have := hm y hy'; exact .inr (.inl (by omega))
    · rcases List.mem_cons.1 hy with rfl | hy'
      · have := hm x hx'; exact .inr (.inr (by omega))
      · exact tile_apart r _ e h3 x hx' y hy' 

section
variable {bs : List UInt8} {x y : Bk}
theorem setT_length (hs : isSz (x.size : Int) = true) (h : x.off + x.size ≤ bs.length) : (setT bs x).length = bs.length := by
  have hs := (isSz_iff _).1 hs
  have e := lyN_length bs x.off (tagN x) (by omega)
  unfold setT
  rw [lyN_length _ _ _ (by omega), e]
theorem setT_same (hs : isSz (x.size : Int) = true) (h : x.off + x.size ≤ bs.length) (p : Nat) (hp : p + 8 ≤ x.off ∨ x.off + x.size ≤ p ∨ (x.off + 8 ≤ p ∧ p + 8 ≤ x.off + x.size - 8)) : wordN (setT bs x) p = wordN bs p := by
  have hs := (isSz_iff _).1 hs
  have e := lyN_length bs x.off (tagN x) (by omega)
  unfold setT
  rw [wordN_other _ _ _ _ (by omega) (by omega), wordN_other _ _ _ _ (by omega) (by omega)]
theorem setT_at (h1 : 184 ≤ x.off) (h2 : x.off % 16 = 8) (h3 : x.off + x.size ≤ bs.length) (hs : isSz (x.size : Int) = true) : getB (setT bs x) (x.off : Int) = some x := by
  have q := (isSz_iff _).1 hs
  have e := lyN_length bs x.off (tagN x) (by omega)
  have ht : tagN x < 18446744073709551616 := by have := packN_lt (x.size : Int) x.used; unfold tagN; omega
  have w1 : wordN (setT bs x) x.off = tagN x := by
    unfold setT
    rw [wordN_other _ _ _ _ (by omega) (by omega), wordN_same _ _ _ (by omega) ht]
  have w2 : wordN (setT bs x) (x.off + x.size - 8) = tagN x := by
    unfold setT
    rw [wordN_same _ _ _ (by omega) ht]
  refine getB_of h1 h2 (by rw [setT_length hs h3]; exact h3) ?_ (by rw [w1, w2])
  rw [w1]
  unfold tagN
  rw [unpN_packN hs]
  rfl
theorem setT_keep (hs : isSz (x.size : Int) = true) (h : x.off + x.size ≤ bs.length) (hy : getB bs (y.off : Int) = some y) (hd : y.off + y.size ≤ x.off ∨ x.off + x.size ≤ y.off) : getB (setT bs x) (y.off : Int) = some y := by
  obtain ⟨_, _, _, g3, g4, _⟩ := getB_some hy
  have q := (isSz_iff _).1 g4
  exact getB_congr bs _ y (setT_length hs h) hy (setT_same hs h _ (by omega)) (setT_same hs h _ (by omega))
end

/-- Blocks that stand one behind the other are walked. -/
theorem walkF_tile (bs : List UInt8) : ∀ (l : List Bk) (o k : Nat), tile o l bs.length → (∀ x ∈ l, getB bs (x.off : Int) = some x) → bs.length < o + k → walkF bs k o = some l
  | [], o, k, h, _, hk => by
    have h : o = bs.length := h
    obtain ⟨k, rfl⟩ : ∃ k', k = k' + 1 := ⟨k - 1, by omega⟩
    unfold walkF
    rw [if_neg (by omega)]
  | x :: r, o, k, ⟨h1, h2, h3⟩, hg, hk => by
    have q := (isSz_iff _).1 h2
    have hoe := (tile_mem r _ _ h3).1
    obtain ⟨k, rfl⟩ : ∃ k', k = k' + 1 := ⟨k - 1, by omega⟩
    unfold walkF
    rw [if_pos (by omega), ← h1, hg x (by simp)]
    dsimp only
    rw [h1, walkF_tile bs r (o + x.size) k h3 (fun y hy => hg y (by simp [hy])) (by omega)]
    rfl
theorem walkB_tile {bs : List UInt8} {l : List Bk} (h : tile 184 l bs.length) (hg : ∀ x ∈ l, getB bs (x.off : Int) = some x) : walkB bs = some l := by
  have := (tile_mem l _ _ h).1
  unfold walkB
  rw [if_neg (by omega)]
  exact walkF_tile bs l 184 _ h hg (by omega)
/-- And the other way round: what was walked is one behind the other. -/
theorem walkF_tiles (bs : List UInt8) : ∀ (k o : Nat) (l : List Bk), o ≤ bs.length → walkF bs k o = some l → tile o l bs.length ∧ ∀ x ∈ l, getB bs (x.off : Int) = some x
  | 0, _, _, _, h => by cases h
  | k + 1, o, l, ho, h => by
    unfold walkF at h
    by_cases hlt : o < bs.length
    · rw [if_pos hlt] at h
      cases hg : getB bs (o : Int) with
      | none => rw [hg] at h; cases h
      | some y =>
        rw [hg] at h
        dsimp only at h
        obtain ⟨g0, _, _, g3, g4, _⟩ := getB_some hg
        have g0 : y.off = o := by omega
        cases hr : walkF bs k (o + y.size) with
        | none => rw [hr] at h; cases h
        | some r =>
          rw [hr] at h
          injection h with h
          subst h
          obtain ⟨i1, i2⟩ := walkF_tiles bs k _ r (by omega) hr
          refine ⟨⟨g0, g4, i1⟩, fun x hx => ?_⟩
          rcases List.mem_cons.1 hx with rfl | hx
          · rw [g0]; exact hg
          · exact i2 x hx
    · rw [if_neg hlt] at h
      injection h with h
      subst h
      exact ⟨by show o = bs.length; omega, fun x hx => by cases hx⟩
theorem walkB_tiles {bs : List UInt8} {l : List Bk} (h : walkB bs = some l) : 184 ≤ bs.length ∧ tile 184 l bs.length ∧ ∀ x ∈ l, getB bs (x.off : Int) = some x := by
  unfold walkB at h
  split at h
  · cases h
  · exact ⟨by omega, walkF_tiles bs _ _ l (by omega) h⟩
/-- The block that ends there is told from behind. -/
theorem aheadB_of {bs : List UInt8} {x : Bk} (h : getB bs (x.off : Int) = some x) : aheadB bs ((x.off : Int) + (x.size : Int)) = some x := by
  obtain ⟨_, g1, _, g3, g4, g5, g6⟩ := getB_some h
  have q := (isSz_iff _).1 g4
  unfold aheadB
  rw [if_neg (by omega)]
  have e1 : ((x.off : Int) + (x.size : Int)).toNat - 8 = x.off + x.size - 8 := by omega
  have e2 : (x.off : Int) + (x.size : Int) - (x.size : Int) = (x.off : Int) := by omega
  rw [e1, g6, g5]
  dsimp only
  rw [e2, h]
  dsimp only
  rw [if_pos ⟨rfl, rfl⟩]
/-- Blocks in an arena whose head is 0: all lists are empty. -/
theorem lists_none {bs : List UInt8} {P : List Bk} (hl : 184 ≤ bs.length) (hm : bs.length ≤ 16384) (hst : Stands bs P) (hz : ∀ p, p + 8 ≤ 184 → p % 8 = 0 → wordN bs p = 0) : Lists bs P (fun _ => []) where
  len := hl
  small := hm
  st := hst
  head := fun c hc => by rw [hz _ (by omega) (by omega)]; rfl
  bit := fun c hc => by
    rw [hz 0 (by omega) rfl]
    have : ∀ c, bitN 0 c = false := fun c => by unfold bitN; simp
    rw [this]; rfl
  mem := fun c _ o ho => by cases ho
  links := fun c _ => trivial
  nodup := fun c _ => List.nodup_nil
end Go.Proofs.YtbldlidpapdkbaaGreatDoor

/- The lists made anew, and what is found then. Plain facts, no program in sight. -/
namespace Go.Proofs.YtbldlidpapdkbaaGreatDoor

/-- How many bytes the block at o has. -/
def szB (bs : List UInt8) (o : Nat) : Nat := match getB bs (o : Int) with
  | some x => x.size
  | none => 0
theorem szB_of {bs : List UInt8} {o : Nat} {x : Bk} (h : getB bs (o : Int) = some x) : szB bs o = x.size := by
  unfold szB; rw [h]
/-- The first block from class c on that has so many bytes. -/
def findF (bs : List UInt8) (s : Int) : Nat → Nat → Option Nat
  | 0, _ => some 0
  | k + 1, c => match allB bs c with
    | none => none
    | some l => match l.find? (fun o => decide (s ≤ (szB bs o : Int))) with
      | some o => some o
      | none => findF bs s k (c + 1)
def findB (bs : List UInt8) (s : Int) : Option Nat := findF bs s (22 - (classI s).toNat) (classI s).toNat
/-- A class's free blocks, the last one first. -/
def freeL (l : List Bk) (c : Nat) : List Nat := (l.reverse.filter fun x => !x.used && classI (x.size : Int) == (c : Int)).map Bk.off
theorem freeL_snoc (l : List Bk) (x : Bk) (c : Nat) : freeL (l ++ [x]) c = if x.used = false ∧ classI (x.size : Int) = (c : Int) then x.off :: freeL l c else freeL l c := by
  unfold freeL
  rw [List.reverse_append, List.reverse_singleton, List.singleton_append, List.filter_cons]
  by_cases h : x.used = false ∧ classI (x.size : Int) = (c : Int)
  · rw [if_pos h, if_pos (by simp [h.1, h.2]), List.map_cons]
  · rw [if_neg h, if_neg (by intro h'; apply h; simpa using h')]
theorem freeL_mem {l : List Bk} {c o : Nat} (h : o ∈ freeL l c) : ∃ x ∈ l, x.off = o ∧ x.used = false ∧ classI (x.size : Int) = (c : Int) := by
  unfold freeL at h
  obtain ⟨x, hx, e⟩ := List.mem_map.1 h
  obtain ⟨h1, h2⟩ := List.mem_filter.1 hx
  have h2' : x.used = false ∧ classI (x.size : Int) = (c : Int) := by simpa using h2
  exact ⟨x, List.mem_reverse.1 h1, e, h2'.1, h2'.2⟩
theorem mem_freeL {l : List Bk} {c : Nat} {x : Bk} (h : x ∈ l) (hu : x.used = false) (hc : classI (x.size : Int) = (c : Int)) : x.off ∈ freeL l c := by
  unfold freeL
  exact List.mem_map.2 ⟨x, List.mem_filter.2 ⟨List.mem_reverse.2 h, by simp [hu, hc]⟩, rfl⟩

theorem tile_ne : ∀ (l : List Bk) (o e : Nat), tile o l e → l.Pairwise (fun x y => x.off ≠ y.off)
  | [], _, _, _ => List.Pairwise.nil
  | x :: r, o, e, ⟨h1, h2, h3⟩ => by
    have q := (isSz_iff _).1 h2
    refine List.Pairwise.cons (fun y hy => ?_) (tile_ne r _ e h3)
    have := (tile_mem r _ e h3).2 y hy
    omega
theorem numB_zeros (n : Nat) : numB (List.replicate n 0) = 0 := by
  induction n with
  | zero => rfl
  | succ n ih => rw [List.replicate_succ]; simp [numB, ih]
theorem wordN_zeros (bs : List UInt8) (n p : Nat) (h : p + 8 ≤ n) : wordN (List.replicate n 0 ++ bs) p = 0 := by
  unfold wordN
  rw [List.drop_append_of_le_length (by simp; omega), List.take_append_of_le_length (by simp; omega), List.drop_replicate, List.take_replicate, numB_zeros]
/-- Greater sizes have no lesser class. -/
theorem classI_mono {a b : Int} (ha : isSz a = true) (hb : isSz b = true) (h : a ≤ b) : classI a ≤ classI b := by
  have key : ∀ s : Int, isSz s = true → (s ≤ 256 ∧ classI s = s / 16 - 2) ∨ (256 < s ∧ s < 512 ∧ classI s = 15) ∨ (512 ≤ s ∧ s < 1024 ∧ classI s = 16) ∨ (1024 ≤ s ∧ s < 2048 ∧ classI s = 17) ∨ (2048 ≤ s ∧ s < 4096 ∧ classI s = 18) ∨ (4096 ≤ s ∧ s < 8192 ∧ classI s = 19) ∨ (8192 ≤ s ∧ s < 16384 ∧ classI s = 20) ∨ (16384 ≤ s ∧ classI s = 21) := fun s hs => by
    unfold classI
    rw [if_neg (by rw [hs]; simp)]
    split
    · exact .inl ⟨by assumption, rfl⟩
    · split
      · exact .inr (.inl ⟨by omega, by assumption, rfl⟩)
      · split
        · exact .inr (.inr (.inl ⟨by omega, by assumption, rfl⟩))
        · split
          · exact .inr (.inr (.inr (.inl ⟨by omega, by assumption, rfl⟩)))
          · split
            · exact .inr (.inr (.inr (.inr (.inl ⟨by omega, by assumption, rfl⟩))))
            · split
              · exact .inr (.inr (.inr (.inr (.inr (.inl ⟨by omega, by assumption, rfl⟩)))))
              · split
                · exact .inr (.inr (.inr (.inr (.inr (.inr (.inl ⟨by omega, by assumption, rfl⟩))))))
                · exact .inr (.inr (.inr (.inr (.inr (.inr (.inr ⟨by omega, rfl⟩))))))
  rcases key a ha with h1 | h1 | h1 | h1 | h1 | h1 | h1 | h1 <;> rcases key b hb with h2 | h2 | h2 | h2 | h2 | h2 | h2 | h2 <;> omega
end Go.Proofs.YtbldlidpapdkbaaGreatDoor

/- What Check asks, and that blocks whose lists are made anew are right. Plain facts, no program in sight. -/
namespace Go.Proofs.YtbldlidpapdkbaaGreatDoor

theorem allF_len (bs : List UInt8) (c : Nat) : ∀ (k last p : Nat) (l : List Nat), allF bs c k last p = some l → l.length ≤ k
  | 0, last, p, l, h => by
    unfold allF at h
    split at h
    · injection h with h; subst h; exact Nat.le_refl _
    · cases h
  | k + 1, last, p, l, h => by
    unfold allF at h
    by_cases hp : p = 0
    · rw [if_pos hp] at h; injection h with h; subst h; exact Nat.zero_le _
    · rw [if_neg hp] at h
      dsimp only at h
      by_cases hm : memberB bs p (c : Int) = true ∧ wordN bs (p + 16) = last
      · rw [if_pos hm] at h
        cases hr : allF bs c k p (wordN bs (p + 8)) with
        | none => rw [hr] at h; cases h
        | some l' =>
          rw [hr] at h
          injection h with h
          subst h
          have := allF_len bs c k p _ l' hr
          rw [List.length_cons]; omega
      · rw [if_neg hm] at h; cases h
theorem allB_len {bs : List UInt8} {c : Nat} {l : List Nat} (h : allB bs c = some l) : l.length ≤ 1024 := by
  unfold allB at h
  split at h
  · cases h
  · split at h
    · cases h
    · exact allF_len bs c _ _ _ l h
theorem walkF_len (bs : List UInt8) : ∀ (k o : Nat) (l : List Bk), walkF bs k o = some l → l.length ≤ k
  | 0, _, _, h => by cases h
  | k + 1, o, l, h => by
    unfold walkF at h
    by_cases hlt : o < bs.length
    · rw [if_pos hlt] at h
      cases hg : getB bs (o : Int) with
      | none => rw [hg] at h; cases h
      | some y =>
        rw [hg] at h
        dsimp only at h
        cases hr : walkF bs k (o + y.size) with
        | none => rw [hr] at h; cases h
        | some r =>
          rw [hr] at h
          injection h with h
          subst h
          have := walkF_len bs k _ r hr
          rw [List.length_cons]; omega
    · rw [if_neg hlt] at h
      injection h with h
      subst h
      exact Nat.zero_le _
theorem walkB_len {bs : List UInt8} {l : List Bk} (h : walkB bs = some l) : l.length ≤ bs.length + 1 := by
  unfold walkB at h
  split at h
  · cases h
  · exact walkF_len bs _ _ l h

def cntFree (l : List Bk) : Nat := l.countP fun x => !x.used
def usedAt (l : List Bk) (i : Nat) : Bool := match l[i]? with
  | some x => x.used
  | none => true
def pairOk (l : List Bk) (i : Nat) : Bool := i == 0 || (usedAt l i || usedAt l (i - 1))
def noAdj (l : List Bk) : Bool := (List.range l.length).all (pairOk l)
def foundB (l : List Bk) (o : Nat) : Bool := l.any fun x => x.off == o && !x.used
def okO (l : List Bk) (all : List Nat) (o : Nat) : Bool := foundB l o && all.count o == 1
def chkC (bs : List UInt8) (l : List Bk) : Nat → Nat → Int → Bool
  | 0, _, fr => fr == 0
  | k + 1, c, fr => match allB bs c with
    | none => false
    | some all => all.all (okO l all) && chkC bs l k (c + 1) (fr - all.length)
def checkB (bs : List UInt8) : Bool := match walkB bs with
  | none => false
  | some l => decide (numO bs 0 < 4194304) && (noAdj l && chkC bs l 22 0 (cntFree l))


/-- How many numbers the lists from class c on have. -/
def sumF (l : List Bk) : Nat → Nat → Nat
  | 0, _ => 0
  | k + 1, c => (freeL l c).length + sumF l k (c + 1)
theorem sumF_nil : ∀ k c, sumF [] k c = 0
  | 0, _ => rfl
  | k + 1, c => by
    unfold sumF
    rw [sumF_nil k (c + 1)]; rfl
theorem sumF_snoc (l : List Bk) (x : Bk) : ∀ k c : Nat, sumF (l ++ [x]) k c = sumF l k c + if x.used = false ∧ (c : Int) ≤ classI (x.size : Int) ∧ classI (x.size : Int) < (c : Int) + (k : Int) then 1 else 0
  | 0, c => by
    unfold sumF
    rw [if_neg (by omega)]
  | k + 1, c => by
    unfold sumF
    rw [sumF_snoc l x k (c + 1), freeL_snoc]
    by_cases h : x.used = false ∧ classI (x.size : Int) = (c : Int)
    · rw [if_pos h, if_neg (by have := h.2; omega), if_pos ⟨h.1, by have := h.2; omega, by have := h.2; omega⟩, List.length_cons]
      omega
    · rw [if_neg h]
      by_cases h2 : x.used = false ∧ ((c : Int) ≤ classI (x.size : Int) ∧ classI (x.size : Int) < (c : Int) + ((k + 1 : Nat) : Int))
      · have : ¬ classI (x.size : Int) = (c : Int) := fun e => h ⟨h2.1, e⟩
        rw [if_pos h2, if_pos ⟨h2.1, by have := h2.2; omega, by have := h2.2; omega⟩]
        omega
      · rw [if_neg h2, if_neg (fun h3 => h2 ⟨h3.1, by have := h3.2; omega, by have := h3.2; omega⟩)]
        omega
/-- All classes have just the free ones. -/
theorem sumF_all (l : List Bk) (h : ∀ x ∈ l, isSz (x.size : Int) = true) : sumF l 22 0 = cntFree l := by
  have key : ∀ (r d : List Bk), (∀ x ∈ r, isSz (x.size : Int) = true) → sumF d 22 0 = cntFree d → sumF (d ++ r) 22 0 = cntFree (d ++ r) := by
    intro r
    induction r with
    | nil => intro d _ hd; rw [List.append_nil]; exact hd
    | cons x r ih =>
      intro d hr hd
      have e : d ++ x :: r = (d ++ [x]) ++ r := by simp
      rw [e]
      refine ih (d ++ [x]) (fun y hy => hr y (by simp [hy])) ?_
      obtain ⟨c, hc, hc22⟩ := class_nat (hr x (by simp))
      rw [sumF_snoc, hd]
      unfold cntFree
      rw [List.countP_append]
      cases hu : x.used with
      | true => rw [if_neg (by simp)]; simp [hu]
      | false => rw [if_pos ⟨rfl, by omega, by omega⟩]; simp [hu]
  have := key l [] h (sumF_nil 22 0)
  simpa using this

theorem freeL_len (l : List Bk) (c : Nat) : (freeL l c).length ≤ l.length := by
  unfold freeL
  rw [List.length_map]
  have := List.length_filter_le (fun x : Bk => !x.used && classI (x.size : Int) == (c : Int)) l.reverse
  rw [List.length_reverse] at this
  exact this
theorem chkC_lists {bs : List UInt8} {l : List Bk} (h : Lists bs l (freeL l)) (hl : l.length ≤ 1024) : ∀ (k c : Nat) (fr : Int), c + k = 22 → chkC bs l k c fr = (fr - sumF l k c == 0)
  | 0, c, fr, _ => by unfold chkC sumF; simp
  | k + 1, c, fr, hc => by
    have ha := h.all (c := c) (by omega) (Nat.le_trans (freeL_len l c) hl)
    have hok : (freeL l c).all (okO l (freeL l c)) = true := by
      rw [List.all_eq_true]
      intro o ho
      unfold okO foundB
      rw [Bool.and_eq_true]
      constructor
      · rw [List.any_eq_true]
        obtain ⟨x, hx, e, hu, _⟩ := freeL_mem ho
        exact ⟨x, hx, by simp [e, hu]⟩
      · rw [List.Nodup.count (h.nodup c (by omega)), if_pos ho]; rfl
    unfold chkC
    rw [ha]
    dsimp only
    rw [hok, Bool.true_and, chkC_lists h hl k (c + 1) _ (by omega)]
    have e : fr - (sumF l (k + 1) c : Nat) = fr - ((freeL l c).length : Int) - (sumF l k (c + 1) : Nat) := by
      have : sumF l (k + 1) c = (freeL l c).length + sumF l k (c + 1) := rfl
      omega
    rw [e]
/-- With lists of just the free ones: right, if no two free ones stand together. -/
theorem checkB_lists {bs : List UInt8} {l : List Bk} (hw : walkB bs = some l) (h : Lists bs l (freeL l)) (h0 : wordN bs 0 < 4194304) : checkB bs = noAdj l := by
  obtain ⟨h184, ht, hg⟩ := walkB_tiles hw
  have hm := tile_mem l _ _ ht
  have hlen : l.length ≤ 1024 := by
    have key : ∀ (l : List Bk) (o e : Nat), tile o l e → l.length * 32 + o ≤ e := by
      intro l
      induction l with
      | nil => intro o e h; have : o = e := h; simp; omega
      | cons x r ih =>
        rintro o e ⟨a, b, c⟩
        have q := (isSz_iff _).1 b
        have := ih _ _ c
        rw [List.length_cons]; omega
    have := key l _ _ ht
    have := h.small
    omega
  have e0 : numO bs 0 = wordN bs 0 := by unfold numO word?; rw [if_pos (by omega)]; rfl
  unfold checkB
  rw [hw]
  dsimp only
  rw [e0, decide_eq_true h0, Bool.true_and, chkC_lists h hlen 22 0 _ rfl, sumF_all l (fun x hx => (hm.2 x hx).2.2.1)]
  have : ((cntFree l : Int) - (cntFree l : Int) == 0) = true := by rw [Int.sub_self]; rfl
  rw [this, Bool.and_true]

/-- The bits behind the classes stay. -/
theorem bit_up (w c : Nat) (hc : c < 22) (h : bitN w c = false) : (w + 2 ^ c) / 4194304 = w / 4194304 := by
  obtain ⟨d, hd⟩ : ∃ d, 22 = c + 1 + d := ⟨21 - c, by omega⟩
  have e : 4194304 = 2 ^ (c + 1) * 2 ^ d := by rw [← Nat.pow_add, ← hd]
  have hp : 0 < 2 ^ c := Nat.two_pow_pos c
  have h1 : w / 2 ^ c % 2 = 0 := by
    unfold bitN at h
    have : ¬ w / 2 ^ c % 2 = 1 := by simpa using h
    omega
  have key : (w + 2 ^ c) / 2 ^ (c + 1) = w / 2 ^ (c + 1) := by
    rw [Nat.pow_succ, ← Nat.div_div_eq_div_mul, ← Nat.div_div_eq_div_mul, Nat.add_div_right _ hp]
    omega
  rw [e, ← Nat.div_div_eq_div_mul, ← Nat.div_div_eq_div_mul, key]
theorem bit_down (w c : Nat) (hc : c < 22) (h : bitN w c = true) : (w - 2 ^ c) / 4194304 = w / 4194304 := by
  have h1 := bitN_ge w c h
  have h2 := bit_up (w - 2 ^ c) c hc (bitN_sub_c w c h)
  rw [Nat.sub_add_cancel h1] at h2
  exact h2.symm
theorem markB_high (bs : List UInt8) (c : Nat) (hc : c < 22) (hl : 184 ≤ bs.length) : wordN (markB bs c) 0 / 4194304 = wordN bs 0 / 4194304 := by
  have hw := wordN_lt bs 0
  unfold markB
  split
  · rename_i h
    rw [wordN_same _ _ _ (by omega) (Nat.lt_of_le_of_lt (Nat.sub_le _ _) hw)]
    exact bit_down _ c hc h.1
  · split
    · rename_i h
      rw [wordN_same _ _ _ (by omega) (bitN_lt _ c (by omega) hw h.1)]
      exact bit_up _ c hc h.1
    · rfl
theorem markB_length (bs : List UInt8) (c : Nat) (hl : 184 ≤ bs.length) : (markB bs c).length = bs.length := by
  unfold markB
  split
  · exact lyN_length _ _ _ (by omega)
  · split
    · exact lyN_length _ _ _ (by omega)
    · rfl
theorem putB_high {bs out : List UInt8} {o : Int} (hl : 184 ≤ bs.length) (h : putB bs o = some out) : out.length = bs.length ∧ wordN out 0 / 4194304 = wordN bs 0 / 4194304 := by
  unfold putB at h
  by_cases hf : freeI bs o < 0
  · rw [if_pos hf] at h; cases h
  · rw [if_neg hf] at h
    obtain ⟨x, hg, hc⟩ : ∃ x, getB bs o = some x ∧ freeI bs o = classI (x.size : Int) := by
      unfold freeI at hf ⊢
      cases hg : getB bs o with
      | none => rw [hg] at hf; simp at hf
      | some x =>
        rw [hg] at hf
        dsimp only at hf ⊢
        cases hu : x.used with
        | true => rw [hu] at hf; simp at hf
        | false => exact ⟨x, rfl, by simp⟩
    have hb := classI_bounds (x.size : Int)
    obtain ⟨c, hcc⟩ : ∃ c, (freeI bs o).toNat = c := ⟨_, rfl⟩
    have hc22 : c < 22 := by omega
    obtain ⟨g0, g1, _, g3, g4, _⟩ := getB_some hg
    have q := (isSz_iff _).1 g4
    rw [hcc] at h
    dsimp only at h
    obtain ⟨f, hfe⟩ : ∃ f, wordN bs (8 + 8 * c) = f := ⟨_, rfl⟩
    rw [hfe] at h
    by_cases hm : (f : Int) = o ∨ (f ≠ 0 ∧ memberB bs f (c : Int) = false)
    · rw [if_pos hm] at h; cases h
    · rw [if_neg hm] at h
      injection h with h
      have ho : o.toNat = x.off := by omega
      rw [ho] at h
      have l1 := lyN_length bs (x.off + 8) f (by omega)
      have l2 := lyN_length (lyN bs (x.off + 8) f) (x.off + 16) 0 (by omega)
      have w2 : wordN (lyN (lyN bs (x.off + 8) f) (x.off + 16) 0) 0 = wordN bs 0 := by
        rw [wordN_other _ _ _ _ (by omega) (by omega), wordN_other _ _ _ _ (by omega) (by omega)]
      obtain ⟨b2, hb2⟩ : ∃ b2, (if f ≠ 0 then lyN (lyN (lyN bs (x.off + 8) f) (x.off + 16) 0) (f + 16) x.off else lyN (lyN bs (x.off + 8) f) (x.off + 16) 0) = b2 := ⟨_, rfl⟩
      have hb : b2.length = bs.length ∧ wordN b2 0 = wordN bs 0 := by
        rw [← hb2]
        by_cases hf0 : f ≠ 0
        · have hmem : memberB bs f (c : Int) = true := by
            cases hmb : memberB bs f (c : Int) with
            | true => rfl
            | false => exact absurd (.inr ⟨hf0, hmb⟩) hm
          unfold memberB at hmem
          cases hgf : getB bs (f : Int) with
          | none => rw [hgf] at hmem; simp at hmem
          | some y =>
            obtain ⟨r0, r1, _, r3, r4, _⟩ := getB_some hgf
            have q2 := (isSz_iff _).1 r4
            rw [if_pos hf0]
            exact ⟨(lyN_length _ _ _ (by omega)).trans (l2.trans l1), by rw [wordN_other _ _ _ _ (by omega) (by omega), w2]⟩
        · rw [if_neg hf0]
          exact ⟨l2.trans l1, w2⟩
      rw [hb2] at h
      have l3 := lyN_length b2 (8 + 8 * c) x.off (by omega)
      rw [← h]
      refine ⟨(markB_length _ c (by omega)).trans (l3.trans hb.1), ?_⟩
      rw [markB_high _ c hc22 (by omega), wordN_other _ _ _ _ (by omega) (by omega), hb.2]
end Go.Proofs.YtbldlidpapdkbaaGreatDoor
