/- A disk and the document's own, alike and apart from each other; what their steps come to. -/
import Derived.Test.YtkddcfaomaphaaaRk4
import Derived.Test.YtkddcfaomaphaaaStand
namespace Go.Proofs.Ytkddcfaomaphaaa
open Go.RowKit

theorem joinD_cons (y : Wr) (r : List Wr) : joinD (y :: r) = y.d ++ joinD r := by simp [joinD]
theorem joinD_at : ∀ (ls : List Wr) (i : Nat) (y : Wr), (∀ x ∈ ls, x.d.length = 512) → ls[i]? = some y → ((joinD ls).drop (i * 512)).take 512 = y.d
  | [], _, _, _, h => by simp at h
  | z :: r, 0, y, hl, h => by
    simp at h; subst h
    have := hl z (by simp)
    rw [joinD_cons, Nat.zero_mul, List.drop_zero, ← this, List.take_left]
  | z :: r, i + 1, y, hl, h => by
    have hz := hl z (by simp)
    have e : (i + 1) * 512 = z.d.length + i * 512 := by omega
    rw [joinD_cons, e, List.drop_append, List.drop_of_length_le (by omega), List.nil_append, Nat.add_sub_cancel_left]
    exact joinD_at r i y (fun x hx => hl x (by simp [hx])) (by simpa using h)
theorem joinD_set : ∀ (ls : List Wr) (s : Nat) (x : Wr), (∀ y ∈ ls, y.d.length = 512) → x.d.length = 512 → s < ls.length → joinD (ls.set s x) = lay (joinD ls) (s * 512) x.d
  | [], _, _, _, _, h => by simp at h
  | z :: r, 0, x, hl, hx, h => by
    have hz := hl z (by simp)
    rw [List.set_cons_zero, joinD_cons, joinD_cons]
    unfold lay
    rw [Nat.zero_mul, List.take_zero, List.nil_append, Nat.zero_add, hx, ← hz, List.drop_left]
  | z :: r, s + 1, x, hl, hx, h => by
    have hz := hl z (by simp)
    have ih := joinD_set r s x (fun y hy => hl y (by simp [hy])) hx (by simpa using h)
    have e : (s + 1) * 512 = z.d.length + s * 512 := by omega
    rw [List.set_cons_succ, joinD_cons, joinD_cons, ih]
    unfold lay
    have e2 : z.d.length + s * 512 + x.d.length = z.d.length + (s * 512 + x.d.length) := by omega
    rw [e, e2, List.take_length_add_append, List.drop_length_add_append, List.append_assoc]
/-- Each is a sector. -/
def All5 (ls : List Wr) : Prop := ∀ y ∈ ls, y.d.length = 512
theorem All5.set {ls : List Wr} (h : All5 ls) {x : Wr} (hx : x.d.length = 512) (s : Nat) : All5 (ls.set s x) := fun y hy => by
  rcases List.mem_or_eq_of_mem_set hy with h1 | rfl
  · exact h y h1
  · exact hx
theorem joinD_stand : ∀ (l ls : List Wr), All5 ls → (∀ x ∈ l, x.s < ls.length ∧ x.d.length = 512) → joinD (rstand ls l) = stand (joinD ls) (l.map Wr.two)
  | [], _, _, _ => rfl
  | x :: r, ls, h, hl => by
    have hx := hl x (by simp)
    have e : rstand ls (x :: r) = rstand (ls.set x.s x) r := rfl
    rw [e, joinD_stand r _ (h.set hx.2 _) (fun y hy => by rw [List.length_set]; exact hl y (by simp [hy])), joinD_set ls x.s x h hx.2 hx.1]
    rfl
theorem kept_map {α β : Type} (f : α → β) : ∀ (l : List α) (kb : List Bool), (kept l kb).map f = kept (l.map f) kb
  | [], _ => by simp [kept]
  | _ :: _, [] => by simp [kept]
  | x :: r, true :: kb => by simp [kept, kept_map f r kb]
  | x :: r, false :: kb => by simp [kept, kept_map f r kb]
theorem lastD_snoc (bs : List UInt8) (l : List (Nat × List UInt8)) (x : Nat × List UInt8) (i : Nat) : lastD bs (l ++ [x]) i = if x.1 = i then x.2 else lastD bs l i := by
  unfold lastD
  rw [List.reverse_append, List.reverse_singleton, List.singleton_append, List.find?_cons]
  by_cases h : x.1 = i
  · rw [if_pos h]
    simp [h]
  · rw [if_neg h]
    have : (x.1 == i) = false := by rw [beq_eq_false_iff_ne]; exact h
    rw [this]
theorem lastD_pick (ls : List Wr) (i : Nat) (y : Wr) (h5 : All5 ls) (hy : ls[i]? = some y) (n : Nat) : ∀ vs : List Wr, vs.length = n → lastD (joinD ls) (vs.map Wr.two) i = (pickR i y vs).d := by
  induction n with
  | zero =>
    intro vs hv
    obtain rfl := List.eq_nil_of_length_eq_zero hv
    rw [List.map_nil, lastD_none _ _ _ (by simp)]
    exact joinD_at ls i y h5 hy
  | succ n ih =>
    intro vs hv
    obtain ⟨r, x, rfl⟩ : ∃ r x, vs = r ++ [x] := ⟨vs.dropLast, vs.getLast (by intro e; subst e; simp at hv), (List.dropLast_concat_getLast _).symm⟩
    rw [List.map_append, List.map_singleton, lastD_snoc, pickR_snoc, ih r (by simpa using hv)]
    show (if x.s = i then x.d else _) = _
    split <;> rfl

/-- A disk and the document's own, alike, apart from each other, all above B; at most n wait. -/
structure Two (Sd Sr : Nat → Prop) (B : Nat) (w : World) (g h c : Nat) (W : Option Addr) (cw gr : Nat) (L : Option Addr) (cl : Nat) (V : Option Addr) (cv : Nat) (bs : List UInt8) (ls ws vs : List Wr) (left : Int) (off : Bool) (n : Nat) : Prop where
  d : Dk Sd w g h c W cw bs ws left off
  r : Rk Sr w gr L cl V cv ls vs left off
  sd : ∀ j, Sd j → B ≤ j ∧ j < w.heap.size ∧ ¬ Sr j
  sr : ∀ j, Sr j → B ≤ j ∧ j < w.heap.size
  hj : joinD ls = bs
  hw : vs.map Wr.two = ws.map Wr.two
  l1 : -1 ≤ left
  l2 : left ≤ 9223372036854775807
  hn : ws.length ≤ n
  hl : ls.length ≤ 128
  hB : B ≤ w.heap.size
def TwoE (B : Nat) (w : World) (g gr n N : Nat) : Prop := ∃ Sd Sr h c W cw L cl V cv bs ls ws vs left off, Two Sd Sr B w g h c W cw gr L cl V cv bs ls ws vs left off n ∧ ls.length = N

section
variable {Sd Sr : Nat → Prop} {B : Nat} {w w1 w2 : World} {g h c : Nat} {W : Option Addr} {cw gr : Nat} {L : Option Addr} {cl : Nat} {V : Option Addr} {cv : Nat} {bs : List UInt8} {ls ws vs : List Wr} {left : Int} {off : Bool} {n : Nat}
theorem Two.all5 (t : Two Sd Sr B w g h c W cw gr L cl V cv bs ls ws vs left off n) : All5 ls := fun x hx => (t.r.lf x hx).1
theorem Two.len (t : Two Sd Sr B w g h c W cw gr L cl V cv bs ls ws vs left off n) : bs.length = 512 * ls.length := by
  rw [← t.hj]; exact joinD_length ls t.all5
theorem Two.same (t : Two Sd Sr B w g h c W cw gr L cl V cv bs ls ws vs left off n) : vs.length = ws.length := by
  have := congrArg List.length t.hw
  simpa using this
theorem Two.below (t : Two Sd Sr B w g h c W cw gr L cl V cv bs ls ws vs left off n) (hb : Below w.heap.size w w1) : Two Sd Sr B w1 g h c W cw gr L cl V cv bs ls ws vs left off n :=
  ⟨t.d.below hb, t.r.below hb, fun j hj => ⟨(t.sd j hj).1, Nat.lt_of_lt_of_le (t.sd j hj).2.1 hb.size, (t.sd j hj).2.2⟩, fun j hj => ⟨(t.sr j hj).1, Nat.lt_of_lt_of_le (t.sr j hj).2 hb.size⟩, t.hj, t.hw, t.l1, t.l2, t.hn, t.hl, Nat.le_trans t.hB hb.size⟩
/-- The document's own behind a step of the disk. -/
theorem Two.mid (t : Two Sd Sr B w g h c W cw gr L cl V cv bs ls ws vs left off n) (h1 : Tch Sd w w1) : Rk Sr w1 gr L cl V cv ls vs left off :=
  t.r.tch h1 fun j hj hs => (t.sd j hs).2.2 hj
/-- Both have made a step. -/
theorem Two.step {h' c' : Nat} {W' : Option Addr} {cw' : Nat} {L' : Option Addr} {cl' : Nat} {V' : Option Addr} {cv' : Nat} {bs' : List UInt8} {ls' ws' vs' : List Wr} {left' : Int} {off' : Bool} {n' : Nat}
    (t : Two Sd Sr B w g h c W cw gr L cl V cv bs ls ws vs left off n) (h1 : Tch Sd w w1) (d1 : Dk (grow Sd w w1) w1 g h' c' W' cw' bs' ws' left' off') (h2 : Tch Sr w1 w2) (r2 : Rk (grow Sr w1 w2) w2 gr L' cl' V' cv' ls' vs' left' off')
    (hj : joinD ls' = bs') (hw : vs'.map Wr.two = ws'.map Wr.two) (l1 : -1 ≤ left') (l2 : left' ≤ 9223372036854775807) (hn : ws'.length ≤ n') (hl : ls'.length = ls.length) : TwoE B w2 g gr n' ls.length ∧ Below B w w2 := by
  have s1 := h1.size
  have s2 := h2.size
  have hB := t.hB
  have b1 : Below B w w1 := h1.below (fun j hj => (t.sd j hj).1) hB
  have b2 : Below B w1 w2 := h2.below (fun j hj => (t.sr j hj).1) (by omega)
  refine ⟨⟨grow Sd w w1, grow Sr w1 w2, h', c', W', cw', L', cl', V', cv', bs', ls', ws', vs', left', off', ⟨d1.tch h2 ?_, r2, ?_, ?_, hj, hw, l1, l2, hn, by rw [hl]; exact t.hl, by omega⟩, hl⟩, b1.trans b2⟩
  · intro j hj hs
    have hs' := t.sr j hs
    rcases hj with hj | hj
    · exact (t.sd j hj).2.2 hs
    · omega
  · intro j hj
    rcases hj with hj | hj
    · have := t.sd j hj
      refine ⟨this.1, by omega, fun hs => ?_⟩
      rcases hs with hs | hs
      · exact this.2.2 hs
      · omega
    · refine ⟨by omega, by omega, fun hs => ?_⟩
      rcases hs with hs | hs
      · have := t.sr j hs; omega
      · omega
  · intro j hj
    rcases hj with hj | hj
    · have := t.sr j hj; omega
    · omega
theorem Dk.grown {S : Nat → Prop} {w0 w1 : World} {w : World} {g h c : Nat} {W : Option Addr} {cw : Nat} {bs : List UInt8} {ws : List Wr} {left : Int} {off : Bool} (k : Dk S w g h c W cw bs ws left off) : Dk (grow S w0 w1) w g h c W cw bs ws left off := k.more fun _ hj => .inl (k.foot hj).1
theorem Rk.grown {S : Nat → Prop} {w0 w1 : World} {w : World} {g : Nat} {L : Option Addr} {cl : Nat} {W : Option Addr} {cw : Nat} {ls ws : List Wr} {left : Int} {off : Bool} (k : Rk S w g L cl W cw ls ws left off) : Rk (grow S w0 w1) w g L cl W cw ls ws left off := k.more fun _ hj => .inl (k.foot hj).1
theorem Two.stay (t : Two Sd Sr B w g h c W cw gr L cl V cv bs ls ws vs left off n) (hb : Below w.heap.size w w1) {n' : Nat} (hn : n ≤ n') : TwoE B w1 g gr n' ls.length ∧ Below B w w1 :=
  have t1 := t.below hb
  ⟨⟨_, _, _, _, _, _, _, _, _, _, _, _, _, _, _, _, ⟨t1.d, t1.r, t1.sd, t1.sr, t1.hj, t1.hw, t1.l1, t1.l2, Nat.le_trans t1.hn hn, t1.hl, t1.hB⟩, rfl⟩, hb.mono t.hB⟩
theorem rstand_flush (t : Two Sd Sr B w g h c W cw gr L cl V cv bs ls ws vs left off n) : joinD (rstand ls vs) = stand bs (ws.map Wr.two) := by
  rw [joinD_stand vs ls t.all5 (fun x hx => ⟨(t.r.wf x hx).1, (t.r.wf x hx).2.1⟩), t.hj, t.hw]
theorem rstand_boot (t : Two Sd Sr B w g h c W cw gr L cl V cv bs ls ws vs left off n) (kb : List Bool) : joinD (rstand ls (kept vs kb)) = stand bs (kept (ws.map Wr.two) kb) := by
  rw [joinD_stand (kept vs kb) ls t.all5 (fun x hx => ⟨(t.r.wf x (kept_mem _ _ _ hx)).1, (t.r.wf x (kept_mem _ _ _ hx)).2.1⟩), t.hj, kept_map, t.hw]
theorem Two.read (t : Two Sd Sr B w g h c W cw gr L cl V cv bs ls ws vs left off n) (i : Nat) (y : Wr) (hy : ls[i]? = some y) : lastD bs (ws.map Wr.two) i = (pickR i y vs).d := by
  rw [← t.hj, ← t.hw]; exact lastD_pick ls i y t.all5 hy _ vs rfl
end
end Go.Proofs.Ytkddcfaomaphaaa
