/- Texts of mine, joined: Chk1, Chk2, Chk3, Chk4, Chk5. -/
import Derived.Maps.OwnSet
import Derived.DeepKeys4
import Derived.Test.YtbemaoncakcnjaaK7

/- The program's set of places (a map whose keys are places), as a word of its own: which places it has, and how many. -/
namespace Go.Proofs.Ytbemaoncakcnjaa
open Go.RowKit

theorem plc_laid : laidOutB Try.prog = true := by kernel_rfl
theorem plc_law : Maps.Keyed Try.prog 136 :=
  Maps.Keyed.of_law (deep_law_laid plc_laid (m := 2) (by omega) (of_decide_eq_true (by kernel_rfl)) (by kernel_rfl) (by rw [Try.underlying136]))

/-- What a place reads as. -/
def pk (o k : Nat) : Lit := .string (keyBytes [.int .i64 (o : Int), .int .i64 (k : Int)])
/-- A place. -/
abbrev pv (o k : Nat) : Value := .agg #[.int .i64 (o : Int), .int .i64 (k : Int)]

theorem pk_key {o k : Nat} (ho : o ≤ 100000) (hk : k ≤ 100) : keyOf Try.prog 136 (pv o k) = some (pk o k) := by
  have w1 : (Lit.int .i64 (o : Int)).wf = true := WalkArith.wf_i64 (by omega)
  have w2 : (Lit.int .i64 (k : Int)).wf = true := WalkArith.wf_i64 (by omega)
  have hkt : Try.prog.keyType 136 = true := by kernel_rfl
  have hc : Try.prog.cellsOf 136 = 2 := by kernel_rfl
  have hi : Try.prog.cellsOf 3 = 1 := by kernel_rfl
  obtain ⟨m, hm⟩ : ∃ m, Try.prog.types.size = m + 1 := ⟨Try.prog.types.size - 1, by have : 0 < Try.prog.types.size := of_decide_eq_true (by kernel_rfl); omega⟩
  unfold keyOf
  simp only [Try.underlying136]
  rw [if_pos (by simp [hkt, Value.formed, Try.underlying136, hc]), hm]
  unfold Program.keyLits
  simp only [Try.underlying136, Value.cells]
  rw [if_pos ⟨by rw [hc]; rfl, by kernel_rfl⟩]
  simp [hi, Program.keyLits, Try.underlying3, w1, w2, pk]

theorem pk_inj {o k o' k' : Nat} (ho : o ≤ 100000) (hk : k ≤ 100) (ho' : o' ≤ 100000) (hk' : k' ≤ 100) (h : pk o k = pk o' k') : o = o' ∧ k = k' := by
  have h1 := pk_key ho hk
  rw [h] at h1
  have h2 := plc_law.inj h1 (pk_key ho' hk')
  simp only [pv, Value.agg.injEq, Array.mk.injEq, List.cons.injEq, Value.int.injEq, and_true, true_and] at h2
  omega
theorem pk_lit {o k : Nat} (ho : o ≤ 100000) (hk : k ≤ 100) : WideAt.IsKeyLit (pk o k) := plc_law.key (pk_key ho hk)

/-- Block B is a map of at most n places, and just those of f, which are z. -/
def PSet (w : World) (B n : Nat) (f : Nat → Nat → Bool) (z : Nat) : Prop := ∃ D : DataW Unit, w.ownsMap Try.prog 136 (plainElem Try.prog 4) B n D ∧
  (∀ kl, Maps.has D kl = true → ∀ y, D.atKey kl y = .lit (.bool true)) ∧ (∀ o k, o ≤ 100000 → k ≤ 100 → Maps.has D (pk o k) = f o k) ∧ Maps.size D = z

theorem bool_elem (b : Bool) : plainElem (H := Unit) Try.prog 4 (.bool b) = some (.lit (.bool b), []) := plainElem_bool Try.underlying4 b
theorem bool_zero (w : World) : (zeroValue 4).run Try.prog w = .ok (.bool false) w := by kernel_rfl
theorem elem_bool_inv {P : Program} {e : TypeId} (he : P.underlying e = some .bool) {v : Value} {d : DataW Unit} {ps : List MemPlace} (h : plainElem P e v = some (d, ps)) : ∃ b, v = .bool b ∧ d = .lit (.bool b) := by
  unfold plainElem at h
  rw [he] at h
  cases v <;> simp at h
  exact ⟨_, rfl, h.1.symm⟩
theorem bool_inv {v : Value} {d : DataW Unit} {ps : List MemPlace} (h : plainElem Try.prog 4 v = some (d, ps)) : ∃ b, v = .bool b ∧ d = .lit (.bool b) := elem_bool_inv Try.underlying4 h

section
variable {w w' : World} {B n z : Nat} {f : Nat → Nat → Bool}
theorem PSet.made (w : World) : PSet (w.alloc (.map #[] 0)) w.heap.size 0 (fun _ _ => false) 0 :=
  ⟨.map [], World.ownsMap_made _ _ _ _, fun kl h => absurd h (by simp [Maps.has]), fun _ _ _ _ => rfl, rfl⟩
theorem PSet.lt (h : PSet w B n f z) : B < w.heap.size := by
  obtain ⟨D, ho, _⟩ := h
  exact ho.lt
theorem PSet.keep (h : PSet w B n f z) (hb : w'.heap[B]? = w.heap[B]?) : PSet w' B n f z := by
  obtain ⟨D, ⟨es, clock, h1, h2⟩, h3⟩ := h
  exact ⟨D, ⟨es, clock, hb.trans h1, h2⟩, h3⟩
theorem PSet.mono {n' : Nat} (h : PSet w B n f z) (hn : n ≤ n') : PSet w B n' f z := by
  obtain ⟨D, h1, h2⟩ := h
  exact ⟨D, h1.mono hn, h2⟩
theorem PSet.below {B0 : Nat} (h : PSet w B n f z) (hb : Below B0 w w') (hB : B < B0) : PSet w' B n f z := h.keep (hb.block B hB)
theorem PSet.same {f' : Nat → Nat → Bool} (h : PSet w B n f z) (hf : ∀ o k, o ≤ 100000 → k ≤ 100 → f o k = f' o k) : PSet w B n f' z := by
  obtain ⟨D, h1, h2, h3, h4⟩ := h
  exact ⟨D, h1, h2, fun o k ho hk => (h3 o k ho hk).trans (hf o k ho hk), h4⟩
end

section
variable {w : World} {ops : Array Oper} {rest : List Oper} {o : Oper} {a : Act} {Q : Exit → Act → World → Prop} {B n z : Nat} {f : Nat → Nat → Bool}

/-- Whether the set has a place. -/
theorem wp_ps_look (hg : o.guard = none) (m x : Operand) (hop : o.op = Op.lookup 111 m x false) (hm : a.eval m = .map (some B)) (h : PSet w B n f z) (p c : Nat) (hp : p ≤ 100000) (hc : c ≤ 100)
    (hx : a.eval x = pv p c) (b : Bool) (hb : f p c = b) (hK : wpList Try.prog ops Q rest (a.put o.dst (.bool b)) w) : wpList Try.prog ops Q (o :: rest) a w := by
  refine wpList_plain hg fun K' hK' => ?_
  obtain ⟨D, hown, hall, hf, hz⟩ := h
  obtain ⟨v, ps, hrun, hv⟩ := hown.lookup plc_law Try.underlying111 (bool_zero w) (bool_elem false) (pk_key hp hc)
  obtain ⟨b', rfl, hd⟩ := bool_inv hv
  have e : b' = b := by
    rw [← hb, ← hf p c hp hc]
    cases hh : Maps.has D (pk p c)
    · rw [Maps.atKey_of_not_has hh] at hd
      simpa using hd.symm
    · rw [hall _ hh] at hd
      simpa using hd.symm
  subst e
  unfold Oper.wp
  simp [execOp, hop, hm, hx, hrun, Result.andThen]
  exact hK' _ _ hK

/-- A place more. -/
theorem wp_ps_put (hg : o.guard = none) (m x v : Operand) (hop : o.op = Op.mapUpdate 111 m x v) (hm : a.eval m = .map (some B)) (h : PSet w B n f z) (hn : n < maxLen) (p c : Nat) (hp : p ≤ 100000) (hc : c ≤ 100)
    (hx : a.eval x = pv p c) (hv : a.eval v = .bool true) (hf0 : f p c = false)
    (hK : ∀ w', PSet w' B (n + 1) (fun p' c' => f p' c' || (p' == p && c' == c)) (z + 1) → Tch (fun j => j = B) w w' → wpList Try.prog ops Q rest (a.put o.dst undef) w') : wpList Try.prog ops Q (o :: rest) a w := by
  obtain ⟨D, hown, hall, hf, hz⟩ := h
  have hkl := pk_lit hp hc
  have hno : Maps.has D (pk p c) = false := (hf p c hp hc).trans hf0
  refine wpList_mapUpdate_own w hg m x v _ hop _ _ plc_law Try.underlying111 _ B n D hm hown hn _ _ (pk p c) hx hv (pk_key hp hc) _ _ (bool_elem true) (fun w' h1 h2 => ?_)
  have hI := (hown.tidy plc_law).isMap
  refine hK w' ⟨_, h1, fun kl hh y => ?_, fun p' c' hp' hc' => ?_, ?_⟩ (Tch.grown h2 (fun k hk => by injection hk with hk; exact hk.symm))
  · by_cases e : kl = pk p c
    · subst e; exact Maps.atKey_put_same hI hkl _ _
    · rw [Maps.has_put_other e] at hh
      rw [Maps.atKey_put_other e]; exact hall _ hh y
  · by_cases e : pk p' c' = pk p c
    · obtain ⟨rfl, rfl⟩ := pk_inj hp' hc' hp hc e
      rw [Maps.has_put_same hI hkl]; simp
    · rw [Maps.has_put_other e, hf p' c' hp' hc']
      have : (p' == p && c' == c) = false := by
        rw [Bool.and_eq_false_iff, beq_eq_false_iff_ne, beq_eq_false_iff_ne]
        by_cases e1 : p' = p
        · exact .inr fun e2 => e (by rw [e1, e2])
        · exact .inl e1
      show _ = (f p' c' || (p' == p && c' == c))
      rw [this, Bool.or_false]
  · rw [Maps.size_put (hown.tidy plc_law), hno, hz]; rfl

/-- A place less. -/
theorem wp_ps_del (hg : o.guard = none) (m x : Operand) (hop : o.op = Op.call { callee := Callee.builtin Builtin.delete, args := #[m, x], argTypes := #[111, 136] }) (hm : a.eval m = .map (some B)) (h : PSet w B n f z) (p c : Nat) (hp : p ≤ 100000) (hc : c ≤ 100)
    (hx : a.eval x = pv p c) (hf1 : f p c = true)
    (hK : ∀ w' z', z' + 1 = z → PSet w' B n (fun p' c' => f p' c' && !(p' == p && c' == c)) z' → Tch (fun j => j = B) w w' → wpList Try.prog ops Q rest (a.put o.dst (.tuple #[])) w') : wpList Try.prog ops Q (o :: rest) a w := by
  obtain ⟨D, hown, hall, hf, hz⟩ := h
  have hyes : Maps.has D (pk p c) = true := (hf p c hp hc).trans hf1
  refine wpList_delete_own w hg m x _ _ hop _ plc_law Try.underlying111 _ B n D hm hown _ (pk p c) hx (pk_key hp hc) (fun w' h1 h2 => ?_)
  have hs := Maps.size_del (k := pk p c) (hown.tidy plc_law)
  rw [hyes, if_pos rfl, hz] at hs
  refine hK w' _ hs ⟨_, h1, fun kl hh y => ?_, fun p' c' hp' hc' => ?_, rfl⟩ (Tch.grown h2.grown (fun k hk => by injection hk with hk; exact hk.symm))
  · by_cases e : kl = pk p c
    · subst e; rw [Maps.has_del_same] at hh; cases hh
    · rw [Maps.has_del_other e] at hh
      rw [Maps.atKey_del_other e]; exact hall _ hh y
  · by_cases e : pk p' c' = pk p c
    · obtain ⟨rfl, rfl⟩ := pk_inj hp' hc' hp hc e
      rw [Maps.has_del_same]; simp
    · rw [Maps.has_del_other e, hf p' c' hp' hc']
      have : (p' == p && c' == c) = false := by
        rw [Bool.and_eq_false_iff, beq_eq_false_iff_ne, beq_eq_false_iff_ne]
        by_cases e1 : p' = p
        · exact .inr fun e2 => e (by rw [e1, e2])
        · exact .inl e1
      show _ = (f p' c' && !(p' == p && c' == c))
      rw [this, Bool.not_false, Bool.and_true]

/-- How many there are. -/
theorem wp_ps_len (hg : o.guard = none) (m : Operand) (hop : o.op = Op.call { callee := Callee.builtin Builtin.len, args := #[m], argTypes := #[111] }) (hm : a.eval m = .map (some B)) (h : PSet w B n f z)
    (hK : wpList Try.prog ops Q rest (a.put o.dst (.int .i64 (z : Int))) w) : wpList Try.prog ops Q (o :: rest) a w := by
  obtain ⟨D, hown, _, _, hz⟩ := h
  refine wpList_len_own w hg m _ hop _ _ Try.underlying111 _ B n D hm hown ?_
  rw [hz]; exact hK
end
end Go.Proofs.Ytbemaoncakcnjaa

/- The program's check (layer 11): free blocks that stand next to each other, bits of no class, the places of all free blocks. -/
namespace Go.Proofs.Ytbemaoncakcnjaa
open Go.RowKit

/-- Whether the block ahead is free. -/
def adjW (l : List Bk) : Nat → Bool
  | 0 => false
  | j + 1 => !usedAt l j
theorem usedAt_of {l : List Bk} {j : Nat} {x : Bk} (h : l[j]? = some x) : usedAt l j = x.used := by unfold usedAt; rw [h]
theorem pairs_succ (l : List Bk) (j : Nat) : (List.range (j + 1)).all (pairOk l) = ((List.range j).all (pairOk l) && pairOk l j) := by
  rw [List.range_succ, List.all_append]; simp
theorem noAdj_not {l : List Bk} {j : Nat} (hj : j < l.length) (h : pairOk l j = false) : noAdj l = false := by
  unfold noAdj
  rw [List.all_eq_false]
  exact ⟨j, List.mem_range.2 hj, by rw [h]; decide⟩
theorem pair_adj {l : List Bk} {j : Nat} {x : Bk} (h : l[j]? = some x) : pairOk l j = !(adjW l j && !x.used) := by
  unfold pairOk
  rw [usedAt_of h]
  cases j with
  | zero => rfl
  | succ j =>
    simp only [adjW, Nat.add_sub_cancel]
    cases x.used <;> cases usedAt l j <;> rfl

section
variable {w : World} {g base cap c : Nat} {A : Option Addr} {bs : List UInt8}

theorem below_cells {B : Nat} {w w' : World} (h : Below B w w') {b j : Nat} {v : Value} (hc : w.cell? ⟨b, j, none⟩ = some v) (hb : b < B) : w'.cell? ⟨b, j, none⟩ = some v :=
  (h.cell (p := ⟨b, j, none⟩) hb).trans hc

set_option maxRecDepth 100000 in
set_option maxHeartbeats 1000000 in
theorem cadj_any (w : World) (A2 : Option Addr) (c2 : Nat) (l : List Bk) (hr : BkRd w w.heap.size A2 l) (hc : l.length ≤ c2 ∧ c2 ≤ 9223372036854775807) (y : Bool) (hy : noAdj l = y) :
    Calls Try.prog 60 #[.slice A2 l.length c2] w fun e w' => e = .returned (.bool (!y)) ∧ Below w.heap.size w w' := by
  have HR := Lib.hid hr
  have HY := Lib.hid hy
  clear hr hy
  go_enter Try.func60, Try.ntmps60
  go_wp2
  go_loopw [3, 8] (fun v t wr => ∃ (j : Nat) (b : Bool), t = .int .i64 (j : Int) ∧ v = .bool b ∧ b = adjW l j ∧ j ≤ l.length ∧ (List.range j).all (pairOk l) = true ∧ Below w.heap.size w wr) (fun _ t _ => l.length - (intOf t).toNat)
  case atStart => exact ⟨0, false, rfl, rfl, rfl, Nat.zero_le _, rfl, Below.refl _ _⟩
  case round =>
    obtain ⟨j, b, rfl, rfl, hbw, hj, hall, hbe⟩ := hrel
    by_cases hlt : j < l.length
    · obtain ⟨x, hx⟩ : ∃ x, l[j]? = some x := ⟨l[j], List.getElem?_eq_getElem hlt⟩
      obtain ⟨b2, o, rfl, hbb, hcl⟩ := HR.out (by omega)
      obtain ⟨p0, p1, p2⟩ := hcl j x hx
      have hp := pair_adj hx
      have hs := pairs_succ l j
      rw [hall, Bool.true_and] at hs
      have hu := usedAt_of hx
      have r0 := below_cells hbe p0 hbb
      have r1 := below_cells hbe p1 hbb
      have r2 := below_cells hbe p2 hbb
      obtain ⟨xo, xs, xu⟩ := x
      dsimp only at p0 p1 p2 r0 r1 r2 hp hu
      rw [← hbw] at hp
      obtain ⟨w4, hw4⟩ : ∃ w4, wr.alloc (.cells #[.int .i64 (xo : Int), .int .i64 (xs : Int), .bool xu] 65) = w4 := ⟨_, rfl⟩
      have hb4 : Below w.heap.size w w4 := by rw [← hw4]; exact hbe.alloc hbe.size _
      have n4 : w4.heap[wr.heap.size]? = some (.cells #[.int .i64 (xo : Int), .int .i64 (xs : Int), .bool xu] 65 (0, 0)) := by rw [← hw4]; exact heap_alloc_new wr _
      obtain ⟨⟨d0, d1, d2⟩, _⟩ := blk_cells n4
      have HW4 := Lib.hid hw4
      have HB4 := Lib.hid hb4
      have HP := Lib.hid hp
      have HS := Lib.hid hs
      have HU := Lib.hid hu
      clear hp hs hu hx hbe p0 p1 p2 hb4 n4 hw4 hcl hall hbw
      cases b <;> cases xu
      · go_wp2_with (first | (rw [HW4.out]) | fail)
        go_roundw
        case rel => exact ⟨j + 1, true, by go_num, rfl, by simp [adjW, HU.out], by omega, by rw [HS.out, HP.out]; rfl, HB4.out⟩
        case measure => simp only [intOf]; omega
      · go_wp2_with (first | (rw [HW4.out]) | fail)
        go_roundw
        case rel => exact ⟨j + 1, false, by go_num, rfl, by simp [adjW, HU.out], by omega, by rw [HS.out, HP.out]; rfl, HB4.out⟩
        case measure => simp only [intOf]; omega
      · obtain rfl : y = false := by rw [← HY.out]; exact noAdj_not hlt HP.out
        go_wp2_with (first | (rw [HW4.out]) | fail)
        go_ret
        exact ⟨rfl, HB4.out⟩
      · go_wp2_with (first | (rw [HW4.out]) | fail)
        go_roundw
        case rel => exact ⟨j + 1, false, by go_num, rfl, by simp [adjW, HU.out], by omega, by rw [HS.out, HP.out]; rfl, HB4.out⟩
        case measure => simp only [intOf]; omega
    · obtain rfl : y = true := by
        rw [← HY.out]
        unfold noAdj
        rw [show l.length = j by omega]
        exact hall
      have HB := Lib.hid hbe
      clear hbe hall hbw
      go_wp2
      go_ret
      exact ⟨rfl, HB.out⟩

set_option maxHeartbeats 400000 in
theorem cbits_any (h : Ar w 74 g base cap A c bs) (hb : base ≤ 4611686018427387904) (hl : bs.length ≤ 16384) (h184 : 184 ≤ bs.length) (y : Bool) (hy : decide (wordN bs 0 < 4194304) = y) :
    Calls Try.prog 61 #[.pointer (some ⟨g, 0, none⟩)] w fun e w' => e = .returned (.bool (!y)) ∧ w = w' := by
  obtain ⟨v, hv⟩ : ∃ v, wordN bs 0 = v := ⟨_, rfl⟩
  have hvl : v < 18446744073709551616 := by rw [← hv]; exact wordN_lt _ _
  have hW := word_at h hb hl 0 (by omega) (some v) (by unfold word?; rw [if_pos (by omega)]; simp [hv])
  have e0 : adr base 0 = base := by unfold adr; omega
  rw [e0] at hW
  dsimp only [wdV] at hW
  rw [hv] at hy
  have HBS := Lib.hid (base_any h)
  have HW := Lib.hid hW
  have HY := Lib.hid hy
  clear hW hy hv h
  go_enter Try.func61, Try.ntmps61
  go_wp2_with fail
  with_reducible refine HBS.out.mono ?_
  rintro e w1 ⟨rfl, rfl⟩
  go_wp2_with fail
  with_reducible refine HW.out.mono ?_
  rintro e w1 ⟨rfl, rfl⟩
  go_wp2
  go_ret
  exact ⟨rt_b (by rw [← HY.out, Bool.eq_iff_iff]; simp; omega), rfl⟩
end
end Go.Proofs.Ytbemaoncakcnjaa

/- The program's check (layer 11): the places of all free blocks. -/
namespace Go.Proofs.Ytbemaoncakcnjaa
open Go.RowKit

/-- Whether a free block of that class stands there. -/
def placesF (l : List Bk) (o k : Nat) : Bool := l.any fun x => x.off == o && !x.used && classI (x.size : Int) == (k : Int)

theorem tile_rises : ∀ (l : List Bk) (o e : Nat), tile o l e → l.Pairwise (fun a b => a.off < b.off)
  | [], _, _, _ => List.Pairwise.nil
  | x :: r, o, e, ⟨a, b, c⟩ => by
    have q := (isSz_iff _).1 b
    refine List.pairwise_cons.2 ⟨fun y hy => ?_, tile_rises r _ _ c⟩
    have := ((tile_mem r _ _ c).2 y hy).1
    omega
theorem places_take {l : List Bk} {j : Nat} {x : Bk} (h : l[j]? = some x) (o k : Nat) : placesF (l.take (j + 1)) o k = (placesF (l.take j) o k || (x.off == o && !x.used && classI (x.size : Int) == (k : Int))) := any_take h
theorem places_new {l : List Bk} {j : Nat} {x : Bk} (hp : l.Pairwise (fun a b => a.off < b.off)) (h : l[j]? = some x) (k : Nat) : placesF (l.take j) x.off k = false := by
  unfold placesF
  rw [List.any_eq_false]
  intro y hy hc
  obtain ⟨i, hi, e⟩ := List.getElem_of_mem hy
  rw [List.length_take] at hi
  rw [List.getElem_take] at e
  obtain ⟨hj, e2⟩ := List.getElem?_eq_some_iff.1 h
  have := List.pairwise_iff_getElem.1 hp i j (by omega) hj (by omega)
  rw [e, e2] at this
  simp at hc
  omega
theorem cnt_take {l : List Bk} {j : Nat} {x : Bk} (h : l[j]? = some x) : cntFree (l.take (j + 1)) = cntFree (l.take j) + if x.used = true then 0 else 1 := by
  unfold cntFree
  rw [countP_take h]
  cases x.used <;> rfl

set_option maxRecDepth 100000 in
set_option maxHeartbeats 1000000 in
theorem cplaces_any (w : World) (A2 : Option Addr) (c2 : Nat) (l : List Bk) (hr : BkRd w w.heap.size A2 l) (hl : l.length ≤ 100000) (hp : l.Pairwise (fun a b => a.off < b.off))
    (hg : ∀ x ∈ l, isSz (x.size : Int) = true ∧ x.off ≤ 100000) :
    Calls Try.prog 63 #[.slice A2 l.length c2] w fun e w' => e = .returned (.map (some w.heap.size)) ∧ PSet w' w.heap.size l.length (placesF l) (cntFree l) ∧ Below w.heap.size w w' := by
  have HR := Lib.hid hr
  have HG := Lib.hid hg
  have HP := Lib.hid hp
  have hmm := @run_makeMap Try.prog
  obtain ⟨B0, hB0⟩ : ∃ B0, w.heap.size = B0 := ⟨_, rfl⟩
  have HB0 := Lib.hid hB0
  have hP0 := PSet.made w
  rw [hB0] at hP0
  obtain ⟨w1, hw1⟩ : ∃ w1, w.alloc (.map #[] 0) = w1 := ⟨_, rfl⟩
  have hb1 : Below w.heap.size w w1 := by rw [← hw1]; exact (Below.refl _ _).alloc (Nat.le_refl _) _
  rw [hw1] at hP0
  have HW1 := Lib.hid hw1
  have HB1 := Lib.hid hb1
  have HP0 := Lib.hid hP0
  clear hr hg hp hP0 hw1 hb1
  go_enter Try.func63, Try.ntmps63
  go_wp2_with (first | (rw [HW1.out]) | fail)
  clear hmm hB0
  go_loopw [9] (fun t wr => ∃ j : Nat, t = .int .i64 (j : Int) ∧ j ≤ l.length ∧ PSet wr B0 j (placesF (l.take j)) (cntFree (l.take j)) ∧ Below B0 w wr) (fun t _ => l.length - (intOf t).toNat)
  case atStart => exact ⟨0, rfl, Nat.zero_le _, HP0.out, by rw [← HB0.out]; exact HB1.out⟩
  case round =>
    obtain ⟨j, rfl, hj, hps, hbe⟩ := hrel
    by_cases hlt : j < l.length
    · obtain ⟨x, hx⟩ : ∃ x, l[j]? = some x := ⟨l[j], List.getElem?_eq_getElem hlt⟩
      obtain ⟨b2, o, rfl, hbb, hcl⟩ := HR.out (by omega)
      rw [HB0.out] at hbb
      obtain ⟨p0, p1, p2⟩ := hcl j x hx
      have ht := places_take hx
      have hn := places_new HP.out hx
      have hct := cnt_take hx
      obtain ⟨hsz, hoff⟩ := HG.out x (List.mem_of_getElem? hx)
      obtain ⟨k, hk, hk22⟩ := class_nat hsz
      have hq := (isSz_iff _).1 hsz
      have r0 := below_cells hbe p0 hbb
      have r1 := below_cells hbe p1 hbb
      have r2 := below_cells hbe p2 hbb
      obtain ⟨xo, xs, xu⟩ := x
      dsimp only at p0 p1 p2 r0 r1 r2 ht hn hct hoff hk hq
      have hBr := hps.lt
      obtain ⟨w4, hw4⟩ : ∃ w4, wr.alloc (.cells #[.int .i64 (xo : Int), .int .i64 (xs : Int), .bool xu] 65) = w4 := ⟨_, rfl⟩
      have hb4 : Below wr.heap.size wr w4 := by rw [← hw4]; exact (Below.refl _ _).alloc (Nat.le_refl _) _
      have n4 : w4.heap[wr.heap.size]? = some (.cells #[.int .i64 (xo : Int), .int .i64 (xs : Int), .bool xu] 65 (0, 0)) := by rw [← hw4]; exact heap_alloc_new wr _
      obtain ⟨⟨d0, d1, d2⟩, _⟩ := blk_cells n4
      have hlt4 := heap_lt n4
      have ps4 := hps.below hb4 hBr
      have HW4 := Lib.hid hw4
      have HB4 := Lib.hid (hbe.trans (hb4.mono (by omega)))
      cases xu with
      | true =>
        have hP : PSet w4 B0 (j + 1) (placesF (l.take (j + 1))) (cntFree (l.take (j + 1))) := by
          rw [hct]
          exact (ps4.mono (Nat.le_succ j)).same fun o k _ _ => by rw [ht]; simp
        have HPN := Lib.hid hP
        clear hx hbe hps p0 p1 p2 hb4 n4 hw4 hcl hk hsz ht hn hct ps4 hP
        go_wp2_with (first | (rw [HW4.out]) | fail)
        go_roundw
        case rel => exact ⟨j + 1, by go_num, by omega, HPN.out, HB4.out⟩
        case measure => simp only [intOf]; omega
      | false =>
        have hC := fun W => classC W (xs : Int) (by omega)
        rw [hk] at hC
        have HC := Lib.hid (hC w4.drew)
        have HPS := Lib.hid (⟨ps4, hlt4⟩ : PSet w4 B0 j (placesF (l.take j)) (cntFree (l.take j)) ∧ wr.heap.size < w4.heap.size)
        have hP : ∀ W, PSet W B0 (j + 1) (fun p' c' => placesF (l.take j) p' c' || (p' == xo && c' == k)) (cntFree (l.take j) + 1) → PSet W B0 (j + 1) (placesF (l.take (j + 1))) (cntFree (l.take (j + 1))) := fun W h => by
          rw [hct]
          refine h.same fun o k' _ _ => ?_
          rw [ht, hk]
          congr 1
          rw [Bool.eq_iff_iff]
          simp
          omega
        have HPN := Lib.hid hP
        have HN := Lib.hid (hn k)
        clear hx hbe hps p0 p1 p2 hb4 n4 hw4 hcl hk hsz ht hn hct ps4 hP hC
        go_wp2_with (first | (rw [HW4.out]) | fail)
        refine wp_region_tail w4.heap.size [([0, 1, 2, 3, 4], 5)] [6] [7] (by kernel_rfl) (by kernel_rfl) (by kernel_rfl) (fun _ _ _ _ _ h => h) ?_
        have q0 : ∀ z : LaterB w4.heap.size w4.drew, z.val.cell? ⟨wr.heap.size, 0, none⟩ = some (.int .i64 (xo : Int)) := fun z => below_cells z.ext d0 hlt4
        have q1 : ∀ z : LaterB w4.heap.size w4.drew, z.val.cell? ⟨wr.heap.size, 1, none⟩ = some (.int .i64 (xs : Int)) := fun z => below_cells z.ext d1 hlt4
        refine tail_cons (l := ?seg1) ?hseg1 ?_
        case hseg1 => simp only [pick, List.getElem?_toArray, List.getElem?_cons_succ, List.getElem?_cons_zero]; rfl
        repeat (go_big_quiet_step (fail))
        refine wpQuiet_nil ?_
        clear q0 q1
        refine tail_call (vs := #[.int .i64 (xs : Int)]) Try.call86 rfl rfl rfl (R := fun r w' => r = .int .i64 (k : Int) ∧ Below w4.heap.size w4.drew w') (HC.out.mono ?_) w4.heap.size (Nat.le_refl _) ?_
        · rintro e w' ⟨rfl, hb⟩
          exact ⟨_, rfl, hb, rfl, hb⟩
        rintro r w5 _ ⟨rfl, hb5⟩
        have hb6 : Below w4.heap.size w4 w5 := ⟨hb5.os, hb5.tape, hb5.output, hb5.size, hb5.block⟩
        have hs6 : w4.heap.size ≤ w5.heap.size := hb6.size
        have hps5 := HPS.out.1.below hb6 (by omega)
        refine tail_last (l := ?la1) (t := ?tl1) ?hla1 ?htl1 ?_
        case hla1 => simp only [pick, List.getElem?_toArray, List.getElem?_cons_succ, List.getElem?_cons_zero]; rfl
        case htl1 => simp only [pick, List.getElem?_toArray, List.getElem?_cons_succ, List.getElem?_cons_zero]; rfl
        simp only [Act.put, List.setIfInBounds_toArray, List.set_cons_zero, List.set_cons_succ]
        repeat (go_big_quiet_step (fail))
        refine wpQuiet_nil ?_
        refine wp_ps_put rfl _ _ _ rfl rfl hps5 (by unfold maxLen; omega) xo k (by omega) (by omega) rfl rfl HN.out ?_
        intro w6 hp6 ht6
        have HP6 := Lib.hid (HPN.out w6 hp6)
        have HB6 := Lib.hid ((HB4.out.trans (hb6.mono (by omega))).trans (ht6.below (B := B0) (fun q hq => by omega) (by omega)))
        clear hp6 ht6 hps5 hb5 hb6 hs6
        go_wp2
        go_roundw
        case rel => exact ⟨j + 1, by go_num, by omega, HP6.out, HB6.out⟩
        case measure => simp only [intOf]; omega
    · have e : l.take j = l := List.take_of_length_le (by omega)
      rw [e] at hps
      have HPS := Lib.hid (hps.mono (n' := l.length) (by omega))
      have HB := Lib.hid hbe
      clear hbe hps e
      go_wp2
      go_ret
      exact ⟨by rw [HB0.out]; rfl, by rw [HB0.out]; exact HPS.out, by rw [HB0.out]; exact HB.out⟩
end Go.Proofs.Ytbemaoncakcnjaa

/- The contract of the program's Check. -/
namespace Go.Proofs.Ytbemaoncakcnjaa
open Go.RowKit

theorem okO_no {l : List Bk} {all : List Nat} {j o : Nat} (ho : all[j]? = some o) (h : (foundB l o && !(all.take j).contains o) = false) : all.all (okO l all) = false := by
  rw [List.all_eq_false]
  refine ⟨o, List.mem_of_getElem? ho, ?_⟩
  unfold okO
  cases hf : foundB l o
  · simp
  · rw [hf, Bool.true_and, Bool.not_eq_false', List.contains_iff_mem] at h
    obtain ⟨hj, e⟩ := List.getElem?_eq_some_iff.1 ho
    have h1 : 0 < (all.take j).count o := List.count_pos_iff.2 h
    have h2 : 0 < (all.drop j).count o := List.count_pos_iff.2 (by rw [List.drop_eq_getElem_cons hj, e]; exact List.mem_cons_self)
    have h3 : all.count o = (all.take j).count o + (all.drop j).count o := by
      rw [← List.count_append, List.take_append_drop]
    have : (all.count o == 1) = false := by rw [beq_eq_false_iff_ne]; omega
    rw [this]; simp
theorem okO_yes {l : List Bk} {all : List Nat} (hn : all.Nodup) (h : ∀ o ∈ all, foundB l o = true) : all.all (okO l all) = true := by
  rw [List.all_eq_true]
  intro o ho
  unfold okO
  have h1 : 0 < all.count o := List.count_pos_iff.2 ho
  have h2 := List.nodup_iff_count.1 hn o
  rw [h o ho, show all.count o = 1 by omega]
  rfl
theorem take_one {all : List Nat} {j o : Nat} (ho : all[j]? = some o) : all.take (j + 1) = all.take j ++ [o] := by
  rw [List.take_add_one, ho]; rfl
theorem nodup_one {all : List Nat} {j o : Nat} (ho : all[j]? = some o) (hn : (all.take j).Nodup) (h : (all.take j).contains o = false) : (all.take (j + 1)).Nodup := by
  rw [take_one ho, List.nodup_append]
  refine ⟨hn, by simp, fun a ha b hb e => ?_⟩
  obtain rfl : b = o := by simpa using hb
  subst e
  rw [List.contains_iff_mem.2 ha] at h
  cases h
theorem places_member {bs : List UInt8} {l : List Bk} (hg : ∀ x ∈ l, getB bs (x.off : Int) = some x) {o k : Nat} (h : memberB bs o (k : Int) = true) : placesF l o k = foundB l o := by
  unfold placesF foundB
  rw [Bool.eq_iff_iff, List.any_eq_true, List.any_eq_true]
  unfold memberB at h
  refine exists_congr fun x => and_congr_right fun hx => ?_
  have h1 := hg x hx
  by_cases e : x.off = o
  · rw [← e, h1] at h
    dsimp only at h
    rw [Bool.and_eq_true, Bool.and_eq_true] at h
    rw [h.2.1, h.2.2]
    simp
  · have : (x.off == o) = false := by rw [beq_eq_false_iff_ne]; exact e
    rw [this]; simp
theorem BkRd.later {w w' : World} {B B' : Nat} {A : Option Addr} {l : List Bk} (h : BkRd w B A l) (hb : Below B w w') (hB : B ≤ B') : BkRd w' B' A l := fun h0 => by
  obtain ⟨b, o, e, hbb, hc⟩ := h h0
  refine ⟨b, o, e, by omega, fun j x hx => ?_⟩
  obtain ⟨p0, p1, p2⟩ := hc j x hx
  exact ⟨below_cells hb p0 hbb, below_cells hb p1 hbb, below_cells hb p2 hbb⟩
theorem tch_cells {S : Nat → Prop} {w w' : World} (h : Tch S w w') {b j : Nat} {v : Value} (hc : w.cell? ⟨b, j, none⟩ = some v) (hb : b < w.heap.size) (hn : ¬ S b) : w'.cell? ⟨b, j, none⟩ = some v :=
  (World.cell?_of_block (w := w) (a := ⟨b, j, none⟩) (h.block b hb hn)).trans hc

/-- What is left of the places behind some of a list. -/
def leftF (f : Nat → Nat → Bool) (d : Nat) (m : List Nat) : Nat → Nat → Bool := fun o k => f o k && !(k == d && m.contains o)

set_option maxRecDepth 100000 in
set_option maxHeartbeats 4000000 in
theorem clists_any (w0 w : World) (g base cap c : Nat) (A : Option Addr) (bs : List UInt8) (h : Ar w0 74 g base cap A c bs) (hb : base ≤ 4611686018427387904) (hl : bs.length ≤ 16384) (hw : Below w0.heap.size w0 w)
    (B n z : Nat) (f : Nat → Nat → Bool) (hps : PSet w B n f z) (hB : w0.heap.size ≤ B) (l : List Bk) (hf : ∀ k : Nat, k < 22 → ∀ o, memberB bs o (k : Int) = true → f o k = foundB l o) (y : Bool) (hy : chkC bs l 22 0 (z : Int) = y) :
    Calls Try.prog 62 #[.pointer (some ⟨g, 0, none⟩), .map (some B)] w fun e w' => e = .returned (.bool y) ∧ Below w0.heap.size w0 w' := by
  have HAR := Lib.hid h
  have HBASE := Lib.hid hb
  have HW := Lib.hid hw
  have HPS := Lib.hid hps
  have HF := Lib.hid hf
  have HY := Lib.hid hy
  clear h hb hw hps hf hy
  go_enter Try.func62, Try.ntmps62
  go_wp2
  go_loopw [11] (fun t wr => ∃ (d k z : Nat) (f : Nat → Nat → Bool), t = .int .i64 (d : Int) ∧ d + k = 22 ∧ y = chkC bs l k d (z : Int) ∧ PSet wr B n f z ∧ (∀ k' : Nat, d ≤ k' → k' < 22 → ∀ o, memberB bs o (k' : Int) = true → f o k' = foundB l o) ∧ Below w0.heap.size w0 wr) (fun t _ => 22 - (intOf t).toNat)
  case atStart => exact ⟨0, 22, z, f, rfl, rfl, HY.out.symm, HPS.out, fun k' _ h => HF.out k' h, HW.out⟩
  case round =>
    clear HPS HF HY HW
    obtain ⟨d, k, z, f, rfl, hdk, hyk, hps, hfm, hbe⟩ := hrel
    generalize wr = wq at *
    by_cases hd22 : d < 22
    · obtain ⟨k, rfl⟩ : ∃ k', k = k' + 1 := ⟨k - 1, by omega⟩
      have har : Ar wq 74 g base cap A c bs := HAR.out.below hbe
      have hBq := hps.lt
      cases ha : allB bs d with
      | none =>
        obtain rfl : y = false := by rw [hyk]; simp [chkC, ha]
        have hA := allC wq g base cap c A bs d _ har HBASE.out hl hd22 ha
        dsimp only [NumsTold, Option.isSome, Option.getD, errV] at hA
        have HA := Lib.hid hA
        have HB := Lib.hid hbe
        clear hA hbe hyk har ha HAR hps hfm
        go_wp2_with fail
        with_reducible refine HA.out.mono ?_
        rintro e w2 ⟨A', c', rfl, _, hb3⟩
        have HB2 := Lib.hid (HB.out.trans (hb3.mono (by omega)))
        clear hb3
        go_wp2
        go_ret
        exact ⟨rfl, HB2.out⟩
      | some all =>
        have hA := allC wq g base cap c A bs d _ har HBASE.out hl hd22 ha
        dsimp only [NumsTold, Option.isSome, Option.getD, errV] at hA
        have hyk' : y = (all.all (okO l all) && chkC bs l k (d + 1) ((z : Int) - all.length)) := by
          rw [hyk]
          conv => lhs; unfold chkC
          rw [ha] <;> rfl
        have hmem : ∀ o ∈ all, memberB bs o (d : Int) = true ∧ o ≤ 20000 := fun o ho => ⟨allB_member ha o ho, (memberB_get (allB_member ha o ho)).1⟩
        have hal := allB_len ha
        have HA := Lib.hid hA
        have HB := Lib.hid hbe
        have HYK := Lib.hid hyk'
        have HMEM := Lib.hid hmem
        have HPS := Lib.hid hps
        have HFM := Lib.hid hfm
        clear hA hbe hyk hyk' har ha hps hfm hmem
        go_wp2_with fail
        with_reducible refine HA.out.mono ?_
        rintro e w2 ⟨A2, c2, rfl, ho2, hb3⟩
        have HO2 := Lib.hid ho2
        have HB2 := Lib.hid (HB.out.trans (hb3.mono (by omega)))
        have HPS2 := Lib.hid (HPS.out.below hb3 hBq)
        have hs2 := hb3.size
        clear hb3 ho2 HA HB HPS
        go_wp2
        go_loopw [24] (fun t wi => ∃ j z' : Nat, t = .int .i64 (j : Int) ∧ j ≤ all.length ∧ z' + j = z ∧ (all.take j).Nodup ∧ (∀ o ∈ all.take j, foundB l o = true) ∧ PSet wi B n (leftF f d (all.take j)) z' ∧ Tch (fun q => q = B) w2 wi) (fun t _ => all.length - (intOf t).toNat)
        case atStart => exact ⟨0, z, rfl, Nat.zero_le _, by omega, by simp, by simp, HPS2.out.same (fun o k _ _ => by simp [leftF]), Tch.refl _ _⟩
        case round =>
          clear HPS2
          obtain ⟨j, z', rfl, hj, hz, hnd, hfd, hps, htc⟩ := hrel
          by_cases hlt : j < all.length
          · obtain ⟨o, ho⟩ : ∃ o, all[j]? = some o := ⟨all[j], List.getElem?_eq_getElem hlt⟩
            obtain ⟨hmo, ho2⟩ := HMEM.out o (List.mem_of_getElem? ho)
            obtain ⟨b2, o2, rfl, hbb, hcl⟩ := own_ints HO2.out rfl (by simp [nats]; omega)
            have hbB : wq.heap.size ≤ b2 := (HO2.out.lt b2 rfl).1
            have p0 := hcl j (o : Int) (by simp [nats, ho])
            have r0 := tch_cells htc p0 hbb (by omega)
            have hff := HFM.out d (Nat.le_refl _) hd22 o hmo
            obtain ⟨bb, hbbv⟩ : ∃ bb, (foundB l o && !(all.take j).contains o) = bb := ⟨_, rfl⟩
            have hlook : leftF f d (all.take j) o d = bb := by
              unfold leftF
              rw [hff, ← hbbv]; simp
            have hBi := hps.lt
            obtain ⟨w4, hw4⟩ : ∃ w4, wr.alloc (.cells #[.int .i64 (o : Int), .int .i64 (d : Int)] 136) = w4 := ⟨_, rfl⟩
            have hb4 : Below wr.heap.size wr w4 := by rw [← hw4]; exact (Below.refl _ _).alloc (Nat.le_refl _) _
            have n4 : w4.heap[wr.heap.size]? = some (.cells #[.int .i64 (o : Int), .int .i64 (d : Int)] 136 (0, 0)) := by rw [← hw4]; exact heap_alloc_new wr _
            have d0 := cell_of_row w4 wr.heap.size 0 _ _ (0, 0) n4
            have d1 := cell_of_row w4 wr.heap.size 1 _ _ (0, 0) n4
            simp only [List.getElem?_toArray, List.getElem?_cons_zero, List.getElem?_cons_succ] at d0 d1
            have HW4 := Lib.hid hw4
            have HP4 := Lib.hid (hps.below hb4 hBi)
            have HT4 := Lib.hid (htc.trans (S' := fun q => q = B) (Tch.of_below hb4) (fun _ _ h => h))
            have HLK := Lib.hid hlook
            have HBBV := Lib.hid hbbv
            have HND := Lib.hid hnd
            have HFD := Lib.hid hfd
            have HO := Lib.hid ho
            clear ho hmo hcl p0 hff hlook hbbv hps htc hb4 n4 hw4 hnd hfd HAR HO2 HMEM HFM
            cases bb with
            | false =>
              obtain rfl : y = false := by rw [HYK.out, okO_no HO.out HBBV.out]; rfl
              have HE := Lib.hid (HB2.out.trans (HT4.out.below (B := w0.heap.size) (fun q hq => by omega) (by omega)))
              clear HB2 HT4 HYK
              go_wp2_with (first | (rw [HW4.out]) | (at_lookup; refine wp_ps_look rfl _ _ rfl rfl HP4.out o d (by omega) (by omega) rfl false HLK.out ?_) | fail)
              go_ret
              exact ⟨rfl, HE.out⟩
            | true =>
              go_wp2_with (first | (rw [HW4.out]) | (at_lookup; refine wp_ps_look rfl _ _ rfl rfl HP4.out o d (by omega) (by omega) rfl true HLK.out ?_) | (at_delete; refine wp_ps_del rfl _ _ rfl rfl HP4.out o d (by omega) (by omega) rfl HLK.out ?_; intro w5 z5 hz5 hp5 ht5; have HP5 := Lib.hid hp5; have HT5 := Lib.hid (HT4.out.trans ht5 (fun _ _ h => h)); have HZ5 := Lib.hid hz5; clear hp5 ht5 hz5) | fail)
              go_roundw
              case rel =>
                have hno : (all.take j).contains o = false := by
                  have := HBBV.out
                  rw [Bool.and_eq_true, Bool.not_eq_true'] at this
                  exact this.2
                have hyes : foundB l o = true := by
                  have := HBBV.out
                  rw [Bool.and_eq_true] at this
                  exact this.1
                refine ⟨j + 1, z5, by go_num, by omega, by have := HZ5.out; omega, nodup_one HO.out HND.out hno, fun q hq => ?_, ?_, HT5.out⟩
                · rw [take_one HO.out, List.mem_append] at hq
                  rcases hq with hq | hq
                  · exact HFD.out q hq
                  · obtain rfl : q = o := by simpa using hq
                    exact hyes
                · refine HP5.out.same fun q k' _ _ => ?_
                  unfold leftF
                  rw [take_one HO.out, Bool.and_assoc]
                  congr 1
                  rw [Bool.eq_iff_iff]
                  simp
                  by_cases e1 : k' = d <;> by_cases e2 : q = o <;> simp [e1, e2]
              case measure => simp only [intOf]; omega
          · have ejl : j = all.length := by omega
            have et : all.take j = all := List.take_of_length_le (by omega)
            rw [et] at hnd hfd hps
            have hyn : y = chkC bs l k (d + 1) (z' : Int) := by
              rw [HYK.out, okO_yes hnd hfd, Bool.true_and]
              congr 1
              omega
            have HYN := Lib.hid hyn
            have HP := Lib.hid hps
            have HE := Lib.hid (HB2.out.trans (htc.below (B := w0.heap.size) (fun q hq => by omega) (by omega)))
            clear hyn hps htc hnd hfd et ejl HYK HB2 HO2
            go_wp2
            go_roundw
            case rel =>
              refine ⟨d + 1, k, z', leftF f d all, by go_num, by omega, HYN.out, HP.out, fun k' h1 h2 q hq => ?_, HE.out⟩
              have : (k' == d) = false := by rw [beq_eq_false_iff_ne]; omega
              unfold leftF
              rw [this, Bool.false_and, Bool.not_false, Bool.and_true]
              exact HFM.out k' (by omega) h2 q hq
            case measure => simp only [intOf]; omega
    · obtain ⟨rfl, rfl⟩ : d = 22 ∧ k = 0 := by omega
      have hyz : y = ((z : Int) == 0) := hyk
      have HYZ := Lib.hid hyz
      have HPS := Lib.hid hps
      have HB := Lib.hid hbe
      clear hyz hyk hps hbe hfm HAR
      go_wp2_with (first | (at_len; refine wp_ps_len rfl _ rfl rfl HPS.out ?_) | fail)
      go_ret
      exact ⟨rt_b HYZ.out.symm, HB.out⟩
end Go.Proofs.Ytbemaoncakcnjaa

/- The contract of the program's Check: all of it. -/
namespace Go.Proofs.Ytbemaoncakcnjaa
open Go.RowKit

set_option maxRecDepth 100000 in
set_option maxHeartbeats 2000000 in
theorem checkC : CheckC := by
  intro w g base cap c A bs x h hb hl hx
  cases hw : walkB bs with
  | none =>
    obtain rfl : false = x := by rw [← hx]; unfold checkB; rw [hw]
    have hW := walkC w g base cap c A bs _ h hb hl hw
    dsimp only [BlksTold, Option.isSome, Option.getD, errV] at hW
    dsimp only [errV]
    have HW := Lib.hid hW
    clear hW hw hx h hb
    go_enter Try.func39, Try.ntmps39
    go_wp2_with fail
    with_reducible refine HW.out.mono ?_
    rintro e w2 ⟨A', c', rfl, _, hb2⟩
    have HB2 := Lib.hid hb2
    clear hb2
    go_wp2
    go_ret
    exact ⟨rfl, HB2.out⟩
  | some l =>
    obtain ⟨h184, ht, hg⟩ := walkB_tiles hw
    have hm := tile_mem l _ _ ht
    obtain ⟨y1, hy1⟩ : ∃ y, noAdj l = y := ⟨_, rfl⟩
    obtain ⟨y2, hy2⟩ : ∃ y, decide (wordN bs 0 < 4194304) = y := ⟨_, rfl⟩
    obtain ⟨y3, hy3⟩ : ∃ y, chkC bs l 22 0 (cntFree l) = y := ⟨_, rfl⟩
    have e0 : numO bs 0 = wordN bs 0 := by unfold numO word?; rw [if_pos (by omega)]; rfl
    have hx' : (y2 && (y1 && y3)) = x := by
      rw [← hx]
      unfold checkB
      rw [hw]
      dsimp only
      rw [e0, hy1, hy2, hy3]
    have hll := walkB_len hw
    have hW := walkC w g base cap c A bs _ h hb hl hw
    dsimp only [BlksTold, Option.isSome, Option.getD, errV] at hW
    have HW := Lib.hid hW
    have HAR := Lib.hid h
    have HBASE := Lib.hid hb
    have HG : Hid (∀ x ∈ l, isSz (x.size : Int) = true ∧ x.off ≤ 100000) := fun x hx => ⟨(hm.2 x hx).2.2.1, by have := (hm.2 x hx).2.1; omega⟩
    have HPM : Hid (∀ k : Nat, k < 22 → ∀ o, memberB bs o (k : Int) = true → placesF l o k = foundB l o) := fun k _ o ho => places_member hg ho
    have HR := Lib.hid (tile_rises l _ _ ht)
    have HY1 := Lib.hid hy1
    have HY2 := Lib.hid hy2
    have HY3 := Lib.hid hy3
    clear hW hw hx h hb ht hg hm hy1 hy2 hy3 e0
    go_enter Try.func39, Try.ntmps39
    go_wp2_with fail
    with_reducible refine HW.out.mono ?_
    rintro e w2 ⟨A2, c2, rfl, ho2, hb2⟩
    have hcl : l.length ≤ c2 ∧ c2 ≤ 9223372036854775807 := by
      rcases ho2.2 with ⟨h', h0⟩ | ⟨_, _, _, h', _, _, h1, h2, _⟩
      · injection h' with _ _ e; rw [h0, e]; omega
      · injection h' with _ _ e; unfold maxLen at h2; omega
    have hr2 := BkRd.of_own ho2
    have HR2 := Lib.hid hr2
    have HB2 := Lib.hid hb2
    have HADJ := Lib.hid (cadj_any w2 A2 c2 l hr2 hcl y1 HY1.out)
    have hs2 := hb2.size
    clear ho2 hr2 hb2 HW
    go_wp2_with fail
    with_reducible refine HADJ.out.mono ?_
    rintro e w3 ⟨rfl, hb3⟩
    have hr3 := HR2.out.later hb3 hb3.size
    have HB3 := Lib.hid (HB2.out.trans (hb3.mono hs2))
    have hs3 := hb3.size
    clear hb3 HR2 HB2 HADJ
    cases y1 with
    | false =>
      obtain rfl : false = x := by rw [← hx']; simp
      clear HAR HG HPM hr3 hx'
      dsimp only [errV]
      go_wp2
      go_ret
      exact ⟨rfl, HB3.out⟩
    | true =>
      have HBT := Lib.hid (cbits_any (HAR.out.below HB3.out) HBASE.out hl h184 y2 HY2.out)
      have HPL := Lib.hid (cplaces_any w3 A2 c2 l hr3 (by omega) HR.out HG.out)
      clear hr3
      go_wp2_with fail
      with_reducible refine HBT.out.mono ?_
      rintro e w4 ⟨rfl, rfl⟩
      cases y2 with
      | false =>
        obtain rfl : false = x := by rw [← hx']; simp
        clear HAR HG HPM hx' HBT HPL
        dsimp only [errV]
        go_wp2
        go_ret
        exact ⟨rfl, HB3.out⟩
      | true =>
        obtain rfl : y3 = x := by rw [← hx']; simp
        go_wp2_with fail
        with_reducible refine HPL.out.mono ?_
        rintro e w4 ⟨rfl, hps4, hb4⟩
        have HLS := Lib.hid (clists_any w w4 g base cap c A bs HAR.out HBASE.out hl (HB3.out.trans (hb4.mono (by omega))) w3.heap.size l.length (cntFree l) (placesF l) hps4 (by omega) l HPM.out y3 HY3.out)
        clear HAR HG HPM hx' HBT HPL hps4 hb4
        go_wp2_with fail
        with_reducible refine HLS.out.mono ?_
        rintro e w5 ⟨rfl, hb5⟩
        have HB5 := Lib.hid hb5
        clear hb5 HLS
        cases y3 with
        | false =>
          dsimp only [errV]
          go_wp2
          go_ret
          exact ⟨rfl, HB5.out⟩
        | true =>
          dsimp only [errV]
          go_wp2
          go_ret
          exact ⟨rfl, HB5.out⟩
end Go.Proofs.Ytbemaoncakcnjaa
