/- The law of one order over calls that may change the blocks of a set, and no other block that was there. No program in sight. -/
import Derived.Test.YtkddcfaomaphaaaTail
import Derived.Test.YtkddcfaomaphaaaAr
namespace Go.Proofs.Ytkddcfaomaphaaa
open Go.RowKit

/-- The worlds from w on in which, of what was there, only blocks of S are others. -/
def LaterS (S : Nat → Prop) (w : World) : Type := { w' : World // Tch S w w' }
def LaterS.val {S : Nat → Prop} {w : World} (x : LaterS S w) : World := x.1
theorem LaterS.ext {S : Nat → Prop} {w : World} (x : LaterS S w) : Tch S w x.val := x.2
instance (S : Nat → Prop) (w : World) : Nonempty (LaterS S w) := ⟨⟨w, Tch.refl _ _⟩⟩
def AfterS (S : Nat → Prop) (w : World) (w' : World) : Prop := ∃ x : LaterS S w, w' = x.val
attribute [go_sem] AfterS

theorem Tch.cell {S : Nat → Prop} {w w' : World} (h : Tch S w w') {a : Addr} {v : Value} (hc : w.cell? a = some v) (hn : ¬ S a.block) : w'.cell? a = some v :=
  (World.cell?_of_block (h.block a.block (cell_size hc) hn)).trans hc
where cell_size {w : World} {a : Addr} {v : Value} (h : w.cell? a = some v) : a.block < w.heap.size := by
        unfold World.cell? at h
        rcases Nat.lt_or_ge a.block w.heap.size with h1 | h1
        · exact h1
        · rw [Array.getElem?_eq_none h1] at h; simp at h

section
variable {P : Program} {ops : Array Oper} {Q : Exit → Act → World → Prop} {T : List Nat}

def wpS (P : Program) (ops : Array Oper) (Q : Exit → Act → World → Prop) (last T : List Nat) : List (List Nat × Nat) → (Nat → Prop) → Act → World → Prop
  | [], S, a, w => wpQuiet P ops (AfterS S w) (fun a' => wpList P ops Q (pick ops T) a' w) (pick ops last) a
  | (rs, i) :: more, S, a, w => wpQuiet P ops (AfterS S w) (fun a' => wpOp P ops Q i (fun a'' w'' => Tch S w w'' ∧ ∃ S' : Nat → Prop, (∀ k, k < w.heap.size → S' k → S k) ∧ wpS P ops Q last T more S' a'' w'') a' w) (pick ops rs) a

theorem segS_any (hsel : Region.noSelect ops = true) (hQ : ∀ c a t v w, Q (.panic c) (Act.put a (some t) v) w → Q (.panic c) a w) (S : Nat → Prop) (w : World) (K : Act → Prop) (n : Nat) :
    ∀ (rs : List Nat) (l : Array Bool) (a : Act), segT ops T l rs = true → wpQuiet P ops (AfterS S w) K (pick ops rs) a →
      (∀ a', K a' → wpAnyT P ops Q (Tch S w) T n (mark l rs) a' w) → wpAnyT P ops Q (Tch S w) T (n + rs.length) l a w
  | [], l, a, _, h, hk => hk a h
  | i :: r, l, a, hc, h, hk => by
    simp only [segT, Bool.and_eq_true] at hc
    obtain ⟨h1, h2, h3, h5, h4⟩ := hc
    simp only [behindT, Bool.and_eq_true, Bool.or_eq_true] at h5
    cases ho : ops[i]? with
    | none => simp [ho] at h3
    | some o =>
      simp only [ho, Option.map_some, Option.getD_some] at h3
      simp only [pick, ho] at h
      have step : ∃ v, YieldsIf P ops (Tch S w) o v a ∧ wpQuiet P ops (AfterS S w) K (pick ops r) (a.put o.dst v) := by
        unfold wpQuiet at h
        by_cases hw : Region.wanted o (yielded ops a.tmps) = true
        · rw [if_pos hw] at h
          obtain ⟨v, hv, hn⟩ := h
          refine ⟨v, .inl ⟨hw, fun w' hw' => ?_⟩, hn⟩
          have hq := hv w' ⟨⟨w', hw'⟩, rfl⟩
          unfold Oper.quietAt at hq
          generalize hr : (execOp a.eval o).run P w' = res at hq
          cases res with
          | ok m w1 =>
            obtain ⟨x, rfl⟩ := val_value h3 hr
            simp only [Oper.quietUpon] at hq
            rw [hq.1, hq.2]
          | halt x w1 => simp only [Oper.quietUpon] at hq
        · rw [if_neg hw] at h
          exact ⟨undef, .inr ⟨by simpa using hw, rfl⟩, h⟩
      obtain ⟨v, hy, hn⟩ := step
      have ih := segS_any hsel hQ S w K n r (l.setIfInBounds i true) (a.put o.dst v) h4 hn hk
      have hQ' : ∀ c a w, Q (.panic c) (a.put o.dst v) w → Q (.panic c) a w := fun c a' w' hh => by
        cases hd : o.dst with
        | none => rw [hd] at hh; exact hh
        | some t => rw [hd] at hh; exact hQ c a' t v w' hh
      have hy' : YieldsIf P ops (fun w' => mv ops i = true ∨ Tch S w w') o v a := by
        rcases hy with ⟨hw, hv⟩ | hy
        · refine .inl ⟨hw, fun w' hw' => ?_⟩
          rcases hw' with hw' | hw'
          · obtain ⟨o', x, ho', hx⟩ := mv_at hw'
            obtain rfl : o' = o := Option.some.inj (ho'.symm.trans ho)
            have e := hv w (Tch.refl _ _)
            rw [mv_run hx] at e ⊢
            injection e with e1 e2
            injection e1 with e1
            rw [e1]
          · exact hv w' hw'
        · exact .inr hy
      have := takeT (Q := Q) (S := Tch S w) (T := T) ho hsel hQ' (h5.imp id fun g => ⟨g.1, fun j hj => by have := List.all_eq_true.1 g.2.2 j hj; simpa using this⟩) (n + r.length) l a w (Region.free_spec ho h2) (h5.imp id fun g k hk => by have := List.all_eq_true.1 g.2.1 k hk; simpa using this) (by simpa using h1) hy' (.inr (Tch.refl _ _)) ih
      simpa [Nat.add_assoc] using this

theorem planS_any (hsel : Region.noSelect ops = true) (hQ : ∀ c a t v w, Q (.panic c) (Act.put a (some t) v) w → Q (.panic c) a w) (last : List Nat) :
    ∀ (p : List (List Nat × Nat)) (l : Array Bool) (S : Nat → Prop) (a : Act) (w : World), planT ops last T l p = true → wpS P ops Q last T p S a w → wpAnyT P ops Q (Tch S w) T (planTLen last T p) l a w
  | [], l, S, a, w, hc, h => by
    simp only [planT, Bool.and_eq_true] at hc
    exact segS_any hsel hQ S w _ T.length last l a hc.1 h (fun a' ha => seqT_any (fun _ h => h) T _ a' w (fun _ h => h) hc.2 ha)
  | (rs, i) :: more, l, S, a, w, hc, h => by
    simp only [planT, Bool.and_eq_true, beq_iff_eq] at hc
    obtain ⟨h1, ⟨h2, h6⟩, h3⟩ := hc
    refine segS_any hsel hQ S w _ (1 + planTLen last T more) rs l a h1 h (fun a' ha => ?_)
    rw [Nat.add_comm]
    refine ⟨fun h0 => (by rw [h2] at h0; cases h0), fun j hj => ?_⟩
    rw [h2] at hj
    obtain rfl : j = i := by simpa using hj
    refine wpOp_mono (fun a'' w'' hh => ⟨fun _ _ => hh.1, fun hm => by simp [hm] at h6, ?_⟩) ha
    obtain ⟨hb, S', hS, hm⟩ := hh
    exact wpAnyT_less (fun w3 h4 => hb.trans h4 hS) _ _ _ _ (planS_any hsel hQ last more _ S' a'' w'' h3 hm)

/-- The region, by one order. -/
theorem wp_region_set {id : Nat} {a : Act} {w : World} (S : Nat → Prop) (p : List (List Nat × Nat)) (last T : List Nat) (hm : P.follows .mixedOrders = true) (hsel : Region.noSelect ops = true)
    (hc : (planT ops last T (Array.replicate ops.size false) p && planTLen last T p == ops.size) = true) (hQ : ∀ c a t v w, Q (.panic c) (Act.put a (some t) v) w → Q (.panic c) a w)
    (h : wpS P ops Q last T p S a w.drew) : (Code.region id ops true).wp P Q a w := by
  simp only [Bool.and_eq_true, beq_iff_eq] at hc
  have := planS_any hsel hQ last p _ S a w.drew hc.1 h
  rw [hc.2] at this
  exact wp_region_any hm (wpAnyT_any _ _ _ _ this)

theorem set_cons {rs : List Nat} {i : Nat} {more : List (List Nat × Nat)} {last : List Nat} {S : Nat → Prop} {a : Act} {w : World} {l : List Oper} (hl : pick ops rs = l)
    (h : wpQuiet P ops (AfterS S w) (fun a' => wpOp P ops Q i (fun a'' w'' => Tch S w w'' ∧ ∃ S' : Nat → Prop, (∀ k, k < w.heap.size → S' k → S k) ∧ wpS P ops Q last T more S' a'' w'') a' w) l a) : wpS P ops Q last T ((rs, i) :: more) S a w := by
  subst hl; exact h
theorem set_last {last : List Nat} {S : Nat → Prop} {a : Act} {w : World} {l t : List Oper} (hl : pick ops last = l) (ht : pick ops T = t)
    (h : wpQuiet P ops (AfterS S w) (fun a' => wpList P ops Q t a' w) l a) : wpS P ops Q last T [] S a w := by
  subst hl ht; exact h

/-- A call of a Go function, by its contract; what may change behind it is chosen then. -/
theorem set_call {i : Nat} {S : Nat → Prop} {dst : Option Tmp} {f : FuncId} {args : Array Operand} {tys : Array TypeId} {ty : TypeId} {pos : String} {after : Array Edge} {guard : Option (Nat × Bool)} {a : Act} {w : World} {K : (Nat → Prop) → Act → World → Prop}
    (hf : ∀ (xs : Array Value) (w : World), (callFunc f xs).run P w = .ok (.enter f xs) w)
    (ho : ops[i]? = some { dst := dst, op := .call { callee := .value (.func f), args := args, argTypes := tys }, type := ty, pos := pos, after := after, guard := guard })
    (hw : Region.wanted { dst := dst, op := .call { callee := .value (.func f), args := args, argTypes := tys }, type := ty, pos := pos, after := after, guard := guard } (yielded ops a.tmps) = true)
    {vs : Array Value} (hvl : args.toList.map a.eval = vs.toList)
    {R : Value → World → Prop} (hc : Calls P f vs w (fun e w' => ∃ v, e = .returned v ∧ Tch S w w' ∧ R v w')) (hk : ∀ v w', Tch S w w' → R v w' → ∃ S' : Nat → Prop, (∀ k, k < w.heap.size → S' k → S k) ∧ K S' (a.put dst v) w') :
    wpOp P ops Q i (fun a'' w'' => Tch S w w'' ∧ ∃ S' : Nat → Prop, (∀ k, k < w.heap.size → S' k → S k) ∧ K S' a'' w'') a w := by
  unfold wpOp
  simp only [ho]
  rw [if_pos hw]
  refine .inl ?_
  have hvs : args.map a.eval = vs := Array.ext' (by simpa using hvl)
  subst hvs
  unfold Oper.wp
  rw [execOp_call_go, hf]
  simp only [Oper.upon, Array.empty_append, Array.append_empty]
  refine hc.mono fun e w' hh => ?_
  obtain ⟨v, rfl, h1, h2⟩ := hh
  exact ⟨h1, hk v w' h1 h2⟩

/-- An operation that yields a value, its temporary named. -/
theorem set_val {i : Nat} {S : Nat → Prop} {o : Oper} {a : Act} {w w1 : World} {v : Value} {K : Act → World → Prop} (d : Option Tmp) (ho : ops[i]? = some o) (hd : o.dst = d) (hw : Region.wanted o (yielded ops a.tmps) = true)
    (hr : (execOp a.eval o).run P w = .ok (.value v) w1) (hb : Tch S w w1) (hk : K (a.put d v) w1) : wpOp P ops Q i (fun a'' w'' => Tch S w w'' ∧ K a'' w'') a w := by
  subst hd
  unfold wpOp
  simp only [ho]
  rw [if_pos hw]
  refine .inl ?_
  unfold Oper.wp
  rw [hr]
  exact ⟨hb, hk⟩
end

end Go.Proofs.Ytkddcfaomaphaaa
