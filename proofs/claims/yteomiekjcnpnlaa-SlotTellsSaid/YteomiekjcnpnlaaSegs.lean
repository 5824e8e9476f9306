/- A region that draws its order, whose operations only read but for calls that wait for one another and change nothing that was there: one walk of one order serves every order. No program in sight. -/
import Derived.Test.YteomiekjcnpnlaaMem
import Derived.OrdersHeld
import Derived.BigQuiet
import Derived.BigCall
namespace Go.Proofs.Yteomiekjcnpnlaa
open Go.RowKit

/-- w' is w with more blocks: nothing that was there has changed. -/
def Ext (w w' : World) : Prop := Below w.heap.size w w'
theorem Ext.refl (w : World) : Ext w w := Below.refl _ _
theorem Ext.trans {a b c : World} (h : Ext a b) (k : Ext b c) : Ext a c := Below.trans h (Below.mono k h.size)

/-- The worlds from w on. -/
def Later (w : World) : Type := { w' : World // Ext w w' }
def Later.val {w : World} (x : Later w) : World := x.1
theorem Later.ext {w : World} (x : Later w) : Ext w x.val := x.2
instance (w : World) : Nonempty (Later w) := ⟨⟨w, Ext.refl w⟩⟩
def After (w : World) (w' : World) : Prop := ∃ x : Later w, w' = x.val
attribute [go_sem] After

/-- Operations that yield a value and enter nothing. -/
def isRead : Op → Bool
  | .move _ => true
  | .assign _ => true
  | .pick _ _ _ => true
  | .load _ _ => true
  | .binOp _ _ _ _ _ => true
  | .unOp _ _ _ => true
  | .convert _ _ _ => true
  | .slice _ _ _ _ _ => true
  | .fieldAddr _ _ _ => true
  | .field _ _ _ => true
  | .indexAddr _ _ _ => true
  | .index _ _ _ => true
  | .extract _ _ => true
  | _ => false

theorem run_value {P : Program} {w w' : World} {s : Sem Value} {n : Next} (h : (do pure (Next.value (← s)) : Sem Next).run P w = .ok n w') : ∃ v, n = .value v := by
  rw [Sem.run_bind] at h
  generalize s.run P w = r at h
  cases r with
  | ok v w1 =>
    simp only [Result.andThen, Sem.run_pure] at h
    injection h with h1 h2
    exact ⟨v, h1.symm⟩
  | halt x w1 => simp [Result.andThen] at h

theorem read_value {P : Program} {ρ : Operand → Value} {o : Oper} {w w' : World} {n : Next} (hr : isRead o.op = true) (h : (execOp ρ o).run P w = .ok n w') : ∃ v, n = .value v := by
  unfold execOp at h
  cases ho : o.op <;> simp only [ho, isRead, Bool.false_eq_true] at hr <;> simp only [ho] at h
  all_goals first
    | exact run_value h
    | (simp only [Sem.run_pure] at h; injection h with h1 h2; exact ⟨_, h1.symm⟩)
    | (rw [Sem.run_bind] at h
       generalize Sem.run P (asBool _) w = r at h
       cases r with
       | ok v w1 => simp only [Result.andThen, Sem.run_pure] at h; injection h with h1 h2; exact ⟨_, h1.symm⟩
       | halt x w1 => simp [Result.andThen] at h)

/-- The operations of these numbers, in this order. -/
def pick (ops : Array Oper) : List Nat → List Oper
  | [] => []
  | i :: r => match ops[i]? with
    | some o => o :: pick ops r
    | none => pick ops r

def mark (l : Array Bool) : List Nat → Array Bool
  | [] => l
  | i :: r => mark (l.setIfInBounds i true) r

def segOk (ops : Array Oper) : Array Bool → List Nat → Bool
  | _, [] => true
  | l, i :: r => (Region.ready .any ops l).contains i && (Region.free .any ops l i && (((ops[i]?).map fun o => isRead o.op).getD false && segOk ops (l.setIfInBounds i true) r))

def planOk (ops : Array Oper) (last : List Nat) : Array Bool → List (List Nat × Nat) → Bool
  | l, [] => segOk ops l last && (Region.ready .any ops (mark l last)).isEmpty
  | l, (rs, i) :: more => segOk ops l rs && (Region.ready .any ops (mark l rs) == [i] && planOk ops last ((mark l rs).setIfInBounds i true) more)

def planLen (last : List Nat) : List (List Nat × Nat) → Nat
  | [] => last.length
  | (rs, _) :: more => rs.length + (1 + planLen last more)

def wpSegs (P : Program) (ops : Array Oper) (Q : Exit → Act → World → Prop) (last : List Nat) : List (List Nat × Nat) → Act → World → Prop
  | [], a, w => wpQuiet P ops (After w) (fun a' => Q .normal a' w) (pick ops last) a
  | (rs, i) :: more, a, w => wpQuiet P ops (After w) (fun a' => wpOp P ops Q i (fun a'' w'' => Ext w w'' ∧ wpSegs P ops Q last more a'' w'') a' w) (pick ops rs) a

section
variable {P : Program} {ops : Array Oper} {Q : Exit → Act → World → Prop}

theorem wpAnyH_less {S S' : World → Prop} (hS : ∀ w, S' w → S w) : ∀ (fuel : Nat) (l : Array Bool) (a : Act) (w : World), wpAnyH P .any ops Q S' fuel l a w → wpAnyH P .any ops Q S fuel l a w
  | 0, _, _, _, h => h
  | fuel + 1, _, _, _, h => ⟨h.1, fun i hi => wpOp_mono (fun a' w' h' => ⟨hS _ h'.1, wpAnyH_less hS fuel _ a' w' h'.2⟩) (h.2 i hi)⟩

theorem held_seg (hsel : Region.noSelect ops = true) (hQ : ∀ c a t v w, Q (.panic c) (Act.put a (some t) v) w → Q (.panic c) a w) (w : World) (K : Act → Prop) (fuel : Nat) :
    ∀ (rs : List Nat) (l : Array Bool) (a : Act), segOk ops l rs = true → wpQuiet P ops (After w) K (pick ops rs) a →
      (∀ a', K a' → wpAnyH P .any ops Q (Ext w) fuel (mark l rs) a' w) → wpAnyH P .any ops Q (Ext w) (fuel + rs.length) l a w
  | [], l, a, _, h, hk => hk a h
  | i :: r, l, a, hc, h, hk => by
    simp only [segOk, Bool.and_eq_true] at hc
    obtain ⟨h1, h2, h3, h4⟩ := hc
    cases ho : ops[i]? with
    | none => simp [ho] at h3
    | some o =>
      simp only [ho, Option.map_some, Option.getD_some] at h3
      simp only [pick, ho] at h
      have step : ∃ v, YieldsIf P ops (Ext w) o v a ∧ wpQuiet P ops (After w) K (pick ops r) (a.put o.dst v) := by
        unfold wpQuiet at h
        by_cases hw : Region.wanted o (yielded ops a.tmps) = true
        · rw [if_pos hw] at h
          obtain ⟨v, hv, hn⟩ := h
          refine ⟨v, .inl ⟨hw, fun w' hw' => ?_⟩, hn⟩
          have hq := hv w' ⟨⟨w', hw'⟩, rfl⟩
          unfold Oper.quietAt at hq
          generalize hr : (execOp a.eval o).run P w' = res at hq
          cases res with
          | ok n w1 =>
            obtain ⟨x, rfl⟩ := read_value h3 hr
            simp only [Oper.quietUpon] at hq
            rw [hq.1, hq.2]
          | halt x w1 => simp only [Oper.quietUpon] at hq
        · rw [if_neg hw] at h
          exact ⟨undef, .inr ⟨by simpa using hw, rfl⟩, h⟩
      obtain ⟨v, hy, hn⟩ := step
      have ih := held_seg hsel hQ w K fuel r (l.setIfInBounds i true) (a.put o.dst v) h4 hn hk
      have := wpAnyH_take (Q := Q) (S := Ext w) ho hsel h2 h1 (fun c a' w' hh => by cases hd : o.dst with | none => rw [hd] at hh; exact hh | some t => rw [hd] at hh; exact hQ c a' t v w' hh) hy (Ext.refl w) ih
      simpa [Nat.add_assoc] using this

theorem held_segs (hsel : Region.noSelect ops = true) (hQ : ∀ c a t v w, Q (.panic c) (Act.put a (some t) v) w → Q (.panic c) a w) (last : List Nat) :
    ∀ (p : List (List Nat × Nat)) (l : Array Bool) (a : Act) (w : World), planOk ops last l p = true → wpSegs P ops Q last p a w → wpAnyH P .any ops Q (Ext w) (planLen last p) l a w
  | [], l, a, w, hc, h => by
    simp only [planOk, Bool.and_eq_true, List.isEmpty_iff] at hc
    have := held_seg hsel hQ w _ 0 last l a hc.1 h (fun a' ha => wpAnyH_done hc.2 ha 0)
    simpa [planLen] using this
  | (rs, i) :: more, l, a, w, hc, h => by
    simp only [planOk, Bool.and_eq_true, beq_iff_eq] at hc
    obtain ⟨h1, h2, h3⟩ := hc
    have := held_seg hsel hQ w _ (1 + planLen last more) rs l a h1 h (fun a' ha => by
      rw [Nat.add_comm]
      refine wpAnyH_all h2 (by simp) fun j hj => ?_
      obtain rfl : j = i := by simpa using hj
      refine wpOp_mono (fun a'' w'' hh => ⟨hh.1, ?_⟩) ha
      exact wpAnyH_less (fun w3 h4 => hh.1.trans h4) _ _ _ _ (held_segs hsel hQ last more _ a'' w'' h3 hh.2))
    simpa [planLen, Nat.add_comm, Nat.add_left_comm, Nat.add_assoc] using this

/-- The region, by one order. -/
theorem wp_region_segs {id : Nat} {a : Act} {w : World} (p : List (List Nat × Nat)) (last : List Nat) (hm : P.follows .mixedOrders = true) (hsel : Region.noSelect ops = true)
    (hc : (planOk ops last (Array.replicate ops.size false) p && planLen last p == ops.size) = true) (hQ : ∀ c a t v w, Q (.panic c) (Act.put a (some t) v) w → Q (.panic c) a w)
    (h : wpSegs P ops Q last p a w.drew) : (Code.region id ops true).wp P Q a w := by
  simp only [Bool.and_eq_true, beq_iff_eq] at hc
  have := held_segs hsel hQ last p _ a w.drew hc.1 h
  rw [hc.2] at this
  exact wp_region_held hm this

/-- One stretch that only reads, up to the next call. -/
theorem segs_cons {rs : List Nat} {i : Nat} {more : List (List Nat × Nat)} {last : List Nat} {a : Act} {w : World} {l : List Oper} (hl : pick ops rs = l)
    (h : wpQuiet P ops (After w) (fun a' => wpOp P ops Q i (fun a'' w'' => Ext w w'' ∧ wpSegs P ops Q last more a'' w'') a' w) l a) : wpSegs P ops Q last ((rs, i) :: more) a w := by
  subst hl; exact h
/-- The last stretch. -/
theorem segs_nil {last : List Nat} {a : Act} {w : World} {l : List Oper} (hl : pick ops last = l)
    (h : wpQuiet P ops (After w) (fun a' => Q .normal a' w) l a) : wpSegs P ops Q last [] a w := by
  subst hl; exact h

/-- A call of a Go function, by its contract. -/
theorem seg_call {i : Nat} {dst : Option Tmp} {f : FuncId} {args : Array Operand} {tys : Array TypeId} {ty : TypeId} {pos : String} {after : Array Edge} {guard : Option (Nat × Bool)} {a : Act} {w : World} {K : Act → World → Prop}
    (hf : ∀ (xs : Array Value) (w : World), (callFunc f xs).run P w = .ok (.enter f xs) w)
    (ho : ops[i]? = some { dst := dst, op := .call { callee := .value (.func f), args := args, argTypes := tys }, type := ty, pos := pos, after := after, guard := guard })
    (hw : Region.wanted { dst := dst, op := .call { callee := .value (.func f), args := args, argTypes := tys }, type := ty, pos := pos, after := after, guard := guard } (yielded ops a.tmps) = true)
    {vs : Array Value} (hvl : args.toList.map a.eval = vs.toList)
    {R : Value → World → Prop} (hc : Calls P f vs w (fun e w' => ∃ v, e = .returned v ∧ Ext w w' ∧ R v w')) (hk : ∀ v w', Ext w w' → R v w' → K (a.put dst v) w') :
    wpOp P ops Q i (fun a'' w'' => Ext w w'' ∧ K a'' w'') a w := by
  unfold wpOp
  simp only [ho]
  rw [if_pos hw]
  refine .inl ?_
  have hvs : args.map a.eval = vs := Array.ext' (by simpa using hvl)
  subst hvs
  unfold Oper.wp
  rw [execOp_call_go, hf]
  simp only [Oper.upon, Array.empty_append, Array.append_empty]
  refine hc.mono fun e w' hh => ?_
  obtain ⟨v, rfl, h1, h2⟩ := hh
  exact ⟨h1, hk v w' h1 h2⟩
end

end Go.Proofs.Yteomiekjcnpnlaa
