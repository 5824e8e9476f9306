/- Texts of mine, joined: Chk1, Chk2, Chk3, Chk4, Chk5, Of0, Of1, Of2. -/
import Derived.Maps.OwnSet
import Derived.DeepKeys4
import Derived.Test.YtbemaoncakcnjaaGreatM11

/- The program's set of places (a map whose keys are places), as a word of its own: which places it has, and how many. -/
namespace Go.Proofs.YtbemaoncakcnjaaGreat
open Go.RowKit

theorem plc_laid : laidOutB Tryz.prog = true := by kernel_rfl
theorem plc_law : Maps.Keyed Tryz.prog 137 :=
  Maps.Keyed.of_law (deep_law_laid plc_laid (m := 2) (by omega) (of_decide_eq_true (by kernel_rfl)) (by kernel_rfl) (by rw [Tryz.underlying137]))

/-- What a place reads as. -/
def pk (o k : Nat) : Lit := .string (keyBytes [.int .i64 (o : Int), .int .i64 (k : Int)])
/-- A place. -/
abbrev pv (o k : Nat) : Value := .agg #[.int .i64 (o : Int), .int .i64 (k : Int)]

theorem pk_key {o k : Nat} (ho : o ≤ 100000) (hk : k ≤ 100) : keyOf Tryz.prog 137 (pv o k) = some (pk o k) := by
  have w1 : (Lit.int .i64 (o : Int)).wf = true := WalkArith.wf_i64 (by omega)
  have w2 : (Lit.int .i64 (k : Int)).wf = true := WalkArith.wf_i64 (by omega)
  have hkt : Tryz.prog.keyType 137 = true := by kernel_rfl
  have hc : Tryz.prog.cellsOf 137 = 2 := by kernel_rfl
  have hi : Tryz.prog.cellsOf 3 = 1 := by kernel_rfl
  obtain ⟨m, hm⟩ : ∃ m, Tryz.prog.types.size = m + 1 := ⟨Tryz.prog.types.size - 1, by have : 0 < Tryz.prog.types.size := of_decide_eq_true (by kernel_rfl); omega⟩
  unfold keyOf
  simp only [Tryz.underlying137]
  rw [if_pos (by simp [hkt, Value.formed, Tryz.underlying137, hc]), hm]
  unfold Program.keyLits
  simp only [Tryz.underlying137, Value.cells]
  rw [if_pos ⟨by rw [hc]; rfl, by kernel_rfl⟩]
  simp [hi, Program.keyLits, Tryz.underlying3, w1, w2, pk]

theorem pk_inj {o k o' k' : Nat} (ho : o ≤ 100000) (hk : k ≤ 100) (ho' : o' ≤ 100000) (hk' : k' ≤ 100) (h : pk o k = pk o' k') : o = o' ∧ k = k' := by
  have h1 := pk_key ho hk
  rw [h] at h1
  have h2 := plc_law.inj h1 (pk_key ho' hk')
  simp only [pv, Value.agg.injEq, Array.mk.injEq, List.cons.injEq, Value.int.injEq, and_true, true_and] at h2
  omega
theorem pk_lit {o k : Nat} (ho : o ≤ 100000) (hk : k ≤ 100) : WideAt.IsKeyLit (pk o k) := plc_law.key (pk_key ho hk)

/-- Block B is a map of at most n places, and just those of f, which are z. -/
def PSet (w : World) (B n : Nat) (f : Nat → Nat → Bool) (z : Nat) : Prop := ∃ D : DataW Unit, w.ownsMap Tryz.prog 137 (plainElem Tryz.prog 4) B n D ∧
  (∀ kl, Maps.has D kl = true → ∀ y, D.atKey kl y = .lit (.bool true)) ∧ (∀ o k, o ≤ 100000 → k ≤ 100 → Maps.has D (pk o k) = f o k) ∧ Maps.size D = z

theorem bool_elem (b : Bool) : plainElem (H := Unit) Tryz.prog 4 (.bool b) = some (.lit (.bool b), []) := plainElem_bool Tryz.underlying4 b
theorem bool_zero (w : World) : (zeroValue 4).run Tryz.prog w = .ok (.bool false) w := by kernel_rfl
theorem elem_bool_inv {P : Program} {e : TypeId} (he : P.underlying e = some .bool) {v : Value} {d : DataW Unit} {ps : List MemPlace} (h : plainElem P e v = some (d, ps)) : ∃ b, v = .bool b ∧ d = .lit (.bool b) := by
  unfold plainElem at h
  rw [he] at h
  cases v <;> simp at h
  exact ⟨_, rfl, h.1.symm⟩
theorem bool_inv {v : Value} {d : DataW Unit} {ps : List MemPlace} (h : plainElem Tryz.prog 4 v = some (d, ps)) : ∃ b, v = .bool b ∧ d = .lit (.bool b) := elem_bool_inv Tryz.underlying4 h

section
variable {w w' : World} {B n z : Nat} {f : Nat → Nat → Bool}
theorem PSet.made (w : World) : PSet (w.alloc (.map #[] 0)) w.heap.size 0 (fun _ _ => false) 0 :=
  ⟨.map [], World.ownsMap_made _ _ _ _, fun kl h => absurd h (by simp [Maps.has]), fun _ _ _ _ => rfl, rfl⟩
theorem PSet.lt (h : PSet w B n f z) : B < w.heap.size := by
  obtain ⟨D, ho, _⟩ := h
  exact ho.lt
theorem PSet.keep (h : PSet w B n f z) (hb : w'.heap[B]? = w.heap[B]?) : PSet w' B n f z := by
  obtain ⟨D, ⟨es, clock, h1, h2⟩, h3⟩ := h
  exact ⟨D, ⟨es, clock, hb.trans h1, h2⟩, h3⟩
theorem PSet.mono {n' : Nat} (h : PSet w B n f z) (hn : n ≤ n') : PSet w B n' f z := by
  obtain ⟨D, h1, h2⟩ := h
  exact ⟨D, h1.mono hn, h2⟩
theorem PSet.below {B0 : Nat} (h : PSet w B n f z) (hb : Below B0 w w') (hB : B < B0) : PSet w' B n f z := h.keep (hb.block B hB)
theorem PSet.same {f' : Nat → Nat → Bool} (h : PSet w B n f z) (hf : ∀ o k, o ≤ 100000 → k ≤ 100 → f o k = f' o k) : PSet w B n f' z := by
  obtain ⟨D, h1, h2, h3, h4⟩ := h
  exact ⟨D, h1, h2, fun o k ho hk => (h3 o k ho hk).trans (hf o k ho hk), h4⟩
end

section
variable {w : World} {ops : Array Oper} {rest : List Oper} {o : Oper} {a : Act} {Q : Exit → Act → World → Prop} {B n z : Nat} {f : Nat → Nat → Bool}

/-- Whether the set has a place. -/
theorem wp_ps_look (hg : o.guard = none) (m x : Operand) (hop : o.op = Op.lookup 106 m x false) (hm : a.eval m = .map (some B)) (h : PSet w B n f z) (p c : Nat) (hp : p ≤ 100000) (hc : c ≤ 100)
    (hx : a.eval x = pv p c) (b : Bool) (hb : f p c = b) (hK : wpList Tryz.prog ops Q rest (a.put o.dst (.bool b)) w) : wpList Tryz.prog ops Q (o :: rest) a w := by
  refine wpList_plain hg fun K' hK' => ?_
  obtain ⟨D, hown, hall, hf, hz⟩ := h
  obtain ⟨v, ps, hrun, hv⟩ := hown.lookup plc_law Tryz.underlying106 (bool_zero w) (bool_elem false) (pk_key hp hc)
  obtain ⟨b', rfl, hd⟩ := bool_inv hv
  have e : b' = b := by
    rw [← hb, ← hf p c hp hc]
    cases hh : Maps.has D (pk p c)
    · rw [Maps.atKey_of_not_has hh] at hd
      simpa using hd.symm
    · rw [hall _ hh] at hd
      simpa using hd.symm
  subst e
  unfold Oper.wp
  simp [execOp, hop, hm, hx, hrun, Result.andThen]
  exact hK' _ _ hK

/-- A place more. -/
theorem wp_ps_put (hg : o.guard = none) (m x v : Operand) (hop : o.op = Op.mapUpdate 106 m x v) (hm : a.eval m = .map (some B)) (h : PSet w B n f z) (hn : n < maxLen) (p c : Nat) (hp : p ≤ 100000) (hc : c ≤ 100)
    (hx : a.eval x = pv p c) (hv : a.eval v = .bool true) (hf0 : f p c = false)
    (hK : ∀ w', PSet w' B (n + 1) (fun p' c' => f p' c' || (p' == p && c' == c)) (z + 1) → Tch (fun j => j = B) w w' → wpList Tryz.prog ops Q rest (a.put o.dst undef) w') : wpList Tryz.prog ops Q (o :: rest) a w := by
  obtain ⟨D, hown, hall, hf, hz⟩ := h
  have hkl := pk_lit hp hc
  have hno : Maps.has D (pk p c) = false := (hf p c hp hc).trans hf0
  refine wpList_mapUpdate_own w hg m x v _ hop _ _ plc_law Tryz.underlying106 _ B n D hm hown hn _ _ (pk p c) hx hv (pk_key hp hc) _ _ (bool_elem true) (fun w' h1 h2 => ?_)
  have hI := (hown.tidy plc_law).isMap
  refine hK w' ⟨_, h1, fun kl hh y => ?_, fun p' c' hp' hc' => ?_, ?_⟩ (Tch.grown h2 (fun k hk => by injection hk with hk; exact hk.symm))
  · by_cases e : kl = pk p c
    · subst e; exact Maps.atKey_put_same hI hkl _ _
    · rw [Maps.has_put_other e] at hh
      rw [Maps.atKey_put_other e]; exact hall _ hh y
  · by_cases e : pk p' c' = pk p c
    · obtain ⟨rfl, rfl⟩ := pk_inj hp' hc' hp hc e
      rw [Maps.has_put_same hI hkl]; simp
    · rw [Maps.has_put_other e, hf p' c' hp' hc']
      have : (p' == p && c' == c) = false := by
        rw [Bool.and_eq_false_iff, beq_eq_false_iff_ne, beq_eq_false_iff_ne]
        by_cases e1 : p' = p
        · exact .inr fun e2 => e (by rw [e1, e2])
        · exact .inl e1
      show _ = (f p' c' || (p' == p && c' == c))
      rw [this, Bool.or_false]
  · rw [Maps.size_put (hown.tidy plc_law), hno, hz]; rfl

/-- A place less. -/
theorem wp_ps_del (hg : o.guard = none) (m x : Operand) (hop : o.op = Op.call { callee := Callee.builtin Builtin.delete, args := #[m, x], argTypes := #[106, 137] }) (hm : a.eval m = .map (some B)) (h : PSet w B n f z) (p c : Nat) (hp : p ≤ 100000) (hc : c ≤ 100)
    (hx : a.eval x = pv p c) (hf1 : f p c = true)
    (hK : ∀ w' z', z' + 1 = z → PSet w' B n (fun p' c' => f p' c' && !(p' == p && c' == c)) z' → Tch (fun j => j = B) w w' → wpList Tryz.prog ops Q rest (a.put o.dst (.tuple #[])) w') : wpList Tryz.prog ops Q (o :: rest) a w := by
  obtain ⟨D, hown, hall, hf, hz⟩ := h
  have hyes : Maps.has D (pk p c) = true := (hf p c hp hc).trans hf1
  refine wpList_delete_own w hg m x _ _ hop _ plc_law Tryz.underlying106 _ B n D hm hown _ (pk p c) hx (pk_key hp hc) (fun w' h1 h2 => ?_)
  have hs := Maps.size_del (k := pk p c) (hown.tidy plc_law)
  rw [hyes, if_pos rfl, hz] at hs
  refine hK w' _ hs ⟨_, h1, fun kl hh y => ?_, fun p' c' hp' hc' => ?_, rfl⟩ (Tch.grown h2.grown (fun k hk => by injection hk with hk; exact hk.symm))
  · by_cases e : kl = pk p c
    · subst e; rw [Maps.has_del_same] at hh; cases hh
    · rw [Maps.has_del_other e] at hh
      rw [Maps.atKey_del_other e]; exact hall _ hh y
  · by_cases e : pk p' c' = pk p c
    · obtain ⟨rfl, rfl⟩ := pk_inj hp' hc' hp hc e
      rw [Maps.has_del_same]; simp
    · rw [Maps.has_del_other e, hf p' c' hp' hc']
      have : (p' == p && c' == c) = false := by
        rw [Bool.and_eq_false_iff, beq_eq_false_iff_ne, beq_eq_false_iff_ne]
        by_cases e1 : p' = p
        · exact .inr fun e2 => e (by rw [e1, e2])
        · exact .inl e1
      show _ = (f p' c' && !(p' == p && c' == c))
      rw [this, Bool.not_false, Bool.and_true]

/-- How many there are. -/
theorem wp_ps_len (hg : o.guard = none) (m : Operand) (hop : o.op = Op.call { callee := Callee.builtin Builtin.len, args := #[m], argTypes := #[106] }) (hm : a.eval m = .map (some B)) (h : PSet w B n f z)
    (hK : wpList Tryz.prog ops Q rest (a.put o.dst (.int .i64 (z : Int))) w) : wpList Tryz.prog ops Q (o :: rest) a w := by
  obtain ⟨D, hown, _, _, hz⟩ := h
  refine wpList_len_own w hg m _ hop _ _ Tryz.underlying106 _ B n D hm hown ?_
  rw [hz]; exact hK
end
end Go.Proofs.YtbemaoncakcnjaaGreat

/- The program's check (layer 11): free blocks that stand next to each other, bits of no class, the places of all free blocks. -/
namespace Go.Proofs.YtbemaoncakcnjaaGreat
open Go.RowKit

/-- Whether the block ahead is free. -/
def adjW (l : List Bk) : Nat → Bool
  | 0 => false
  | j + 1 => !usedAt l j
theorem usedAt_of {l : List Bk} {j : Nat} {x : Bk} (h : l[j]? = some x) : usedAt l j = x.used := by unfold usedAt; rw [h]
theorem pairs_succ (l : List Bk) (j : Nat) : (List.range (j + 1)).all (pairOk l) = ((List.range j).all (pairOk l) && pairOk l j) := by
  rw [List.range_succ, List.all_append]; simp
theorem noAdj_not {l : List Bk} {j : Nat} (hj : j < l.length) (h : pairOk l j = false) : noAdj l = false := by
  unfold noAdj
  rw [List.all_eq_false]
  exact ⟨j, List.mem_range.2 hj, by rw [h]; decide⟩
theorem pair_adj {l : List Bk} {j : Nat} {x : Bk} (h : l[j]? = some x) : pairOk l j = !(adjW l j && !x.used) := by
  unfold pairOk
  rw [usedAt_of h]
  cases j with
  | zero => rfl
  | succ j =>
    simp only [adjW, Nat.add_sub_cancel]
    cases x.used <;> cases usedAt l j <;> rfl

section
variable {w : World} {g base cap c : Nat} {A : Option Addr} {bs : List UInt8}

theorem below_cells {B : Nat} {w w' : World} (h : Below B w w') {b j : Nat} {v : Value} (hc : w.cell? ⟨b, j, none⟩ = some v) (hb : b < B) : w'.cell? ⟨b, j, none⟩ = some v :=
  (h.cell (p := ⟨b, j, none⟩) hb).trans hc

set_option maxRecDepth 100000 in
set_option maxHeartbeats 1000000 in
theorem cadj_any (w : World) (A2 : Option Addr) (c2 : Nat) (l : List Bk) (hr : BkRd w w.heap.size A2 l) (hc : l.length ≤ c2 ∧ c2 ≤ 9223372036854775807) (y : Bool) (hy : noAdj l = y) :
    Calls Tryz.prog 53 #[.slice A2 l.length c2] w fun e w' => e = .returned (.bool (!y)) ∧ Below w.heap.size w w' := by
  have HR := Lib.hid hr
  have HY := Lib.hid hy
  clear hr hy
  go_enter Tryz.func53, Tryz.ntmps53
  go_wp2
  go_loopw [3, 8] (fun v t wr => ∃ (j : Nat) (b : Bool), t = .int .i64 (j : Int) ∧ v = .bool b ∧ b = adjW l j ∧ j ≤ l.length ∧ (List.range j).all (pairOk l) = true ∧ Below w.heap.size w wr) (fun _ t _ => l.length - (intOf t).toNat)
  case atStart => exact ⟨0, false, rfl, rfl, rfl, Nat.zero_le _, rfl, Below.refl _ _⟩
  case round =>
    obtain ⟨j, b, rfl, rfl, hbw, hj, hall, hbe⟩ := hrel
    by_cases hlt : j < l.length
    · obtain ⟨x, hx⟩ : ∃ x, l[j]? = some x := ⟨l[j], List.getElem?_eq_getElem hlt⟩
      obtain ⟨b2, o, rfl, hbb, hcl⟩ := HR.out (by omega)
      obtain ⟨p0, p1, p2⟩ := hcl j x hx
      have hp := pair_adj hx
      have hs := pairs_succ l j
      rw [hall, Bool.true_and] at hs
      have hu := usedAt_of hx
      have r0 := below_cells hbe p0 hbb
      have r1 := below_cells hbe p1 hbb
      have r2 := below_cells hbe p2 hbb
      obtain ⟨xo, xs, xu⟩ := x
      dsimp only at p0 p1 p2 r0 r1 r2 hp hu
      rw [← hbw] at hp
      obtain ⟨w4, hw4⟩ : ∃ w4, wr.alloc (.cells #[.int .i64 (xo : Int), .int .i64 (xs : Int), .bool xu] 51) = w4 := ⟨_, rfl⟩
      have hb4 : Below w.heap.size w w4 := by rw [← hw4]; exact hbe.alloc hbe.size _
      have n4 : w4.heap[wr.heap.size]? = some (.cells #[.int .i64 (xo : Int), .int .i64 (xs : Int), .bool xu] 51 (0, 0)) := by rw [← hw4]; exact heap_alloc_new wr _
      obtain ⟨⟨d0, d1, d2⟩, _⟩ := blk_cells n4
      have HW4 := Lib.hid hw4
      have HB4 := Lib.hid hb4
      have HP := Lib.hid hp
      have HS := Lib.hid hs
      have HU := Lib.hid hu
      clear hp hs hu hx hbe p0 p1 p2 hb4 n4 hw4 hcl hall hbw
      cases b <;> cases xu
      · go_wp2_with (first | (rw [HW4.out]) | fail)
        go_roundw
        case rel => exact ⟨j + 1, true, by go_num, rfl, by simp [adjW, HU.out], by omega, by rw [HS.out, HP.out]; rfl, HB4.out⟩
        case measure => simp only [intOf]; omega
      · go_wp2_with (first | (rw [HW4.out]) | fail)
        go_roundw
        case rel => exact ⟨j + 1, false, by go_num, rfl, by simp [adjW, HU.out], by omega, by rw [HS.out, HP.out]; rfl, HB4.out⟩
        case measure => simp only [intOf]; omega
      · obtain rfl : y = false := by rw [← HY.out]; exact noAdj_not hlt HP.out
        go_wp2_with (first | (rw [HW4.out]) | fail)
        go_ret
        exact ⟨rfl, HB4.out⟩
      · go_wp2_with (first | (rw [HW4.out]) | fail)
        go_roundw
        case rel => exact ⟨j + 1, false, by go_num, rfl, by simp [adjW, HU.out], by omega, by rw [HS.out, HP.out]; rfl, HB4.out⟩
        case measure => simp only [intOf]; omega
    · obtain rfl : y = true := by
        rw [← HY.out]
        unfold noAdj
        rw [show l.length = j by omega]
        exact hall
      have HB := Lib.hid hbe
      clear hbe hall hbw
      go_wp2
      go_ret
      exact ⟨rfl, HB.out⟩

set_option maxHeartbeats 400000 in
theorem cbits_any (h : Ar w 92 g base cap A c bs) (hb : base ≤ 4611686018427387904) (hl : bs.length ≤ 16384) (h184 : 184 ≤ bs.length) (y : Bool) (hy : decide (wordN bs 0 < 4194304) = y) :
    Calls Tryz.prog 54 #[.pointer (some ⟨g, 0, none⟩)] w fun e w' => e = .returned (.bool (!y)) ∧ w = w' := by
  obtain ⟨v, hv⟩ : ∃ v, wordN bs 0 = v := ⟨_, rfl⟩
  have hvl : v < 18446744073709551616 := by rw [← hv]; exact wordN_lt _ _
  have hW := word_at h hb hl 0 (by omega) (some v) (by unfold word?; rw [if_pos (by omega)]; simp [hv])
  have e0 : adr base 0 = base := by unfold adr; omega
  rw [e0] at hW
  dsimp only [wdV] at hW
  rw [hv] at hy
  have HBS := Lib.hid (base_any h)
  have HW := Lib.hid hW
  have HY := Lib.hid hy
  clear hW hy hv h
  go_enter Tryz.func54, Tryz.ntmps54
  go_wp2_with fail
  with_reducible refine HBS.out.mono ?_
  rintro e w1 ⟨rfl, rfl⟩
  go_wp2_with fail
  with_reducible refine HW.out.mono ?_
  rintro e w1 ⟨rfl, rfl⟩
  go_wp2
  go_ret
  exact ⟨rt_b (by rw [← HY.out, Bool.eq_iff_iff]; simp; omega), rfl⟩
end
end Go.Proofs.YtbemaoncakcnjaaGreat

/- The program's check (layer 11): the places of all free blocks. -/
namespace Go.Proofs.YtbemaoncakcnjaaGreat
open Go.RowKit

/-- Whether a free block of that class stands there. -/
def placesF (l : List Bk) (o k : Nat) : Bool := l.any fun x => x.off == o && !x.used && classI (x.size : Int) == (k : Int)

theorem tile_rises : ∀ (l : List Bk) (o e : Nat), tile o l e → l.Pairwise (fun a b => a.off < b.off)
  | [], _, _, _ => List.Pairwise.nil
  | x :: r, o, e, ⟨a, b, c⟩ => by
    have q := (isSz_iff _).1 b
    refine List.pairwise_cons.2 ⟨fun y hy => ?_, tile_rises r _ _ c⟩
    have := ((tile_mem r _ _ c).2 y hy).1
    omega
theorem places_take {l : List Bk} {j : Nat} {x : Bk} (h : l[j]? = some x) (o k : Nat) : placesF (l.take (j + 1)) o k = (placesF (l.take j) o k || (x.off == o && !x.used && classI (x.size : Int) == (k : Int))) := any_take h
theorem places_new {l : List Bk} {j : Nat} {x : Bk} (hp : l.Pairwise (fun a b => a.off < b.off)) (h : l[j]? = some x) (k : Nat) : placesF (l.take j) x.off k = false := by
  unfold placesF
  rw [List.any_eq_false]
  intro y hy hc
  obtain ⟨i, hi, e⟩ := List.getElem_of_mem hy
  rw [List.length_take] at hi
  rw [List.getElem_take] at e
  obtain ⟨hj, e2⟩ := List.getElem?_eq_some_iff.1 h
  have := List.pairwise_iff_getElem.1 hp i j (by omega) hj (by omega)
  rw [e, e2] at this
  simp at hc
  omega
theorem cnt_take {l : List Bk} {j : Nat} {x : Bk} (h : l[j]? = some x) : cntFree (l.take (j + 1)) = cntFree (l.take j) + if x.used = true then 0 else 1 := by
  unfold cntFree
  rw [countP_take h]
  cases x.used <;> rfl

set_option maxRecDepth 100000 in
set_option maxHeartbeats 1000000 in
theorem cplaces_any (w : World) (A2 : Option Addr) (c2 : Nat) (l : List Bk) (hr : BkRd w w.heap.size A2 l) (hl : l.length ≤ 100000) (hp : l.Pairwise (fun a b => a.off < b.off))
    (hg : ∀ x ∈ l, isSz (x.size : Int) = true ∧ x.off ≤ 100000) :
    Calls Tryz.prog 56 #[.slice A2 l.length c2] w fun e w' => e = .returned (.map (some w.heap.size)) ∧ PSet w' w.heap.size l.length (placesF l) (cntFree l) ∧ Below w.heap.size w w' := by
  have HR := Lib.hid hr
  have HG := Lib.hid hg
  have HP := Lib.hid hp
  have hmm := @run_makeMap Tryz.prog
  obtain ⟨B0, hB0⟩ : ∃ B0, w.heap.size = B0 := ⟨_, rfl⟩
  have HB0 := Lib.hid hB0
  have hP0 := PSet.made w
  rw [hB0] at hP0
  obtain ⟨w1, hw1⟩ : ∃ w1, w.alloc (.map #[] 0) = w1 := ⟨_, rfl⟩
  have hb1 : Below w.heap.size w w1 := by rw [← hw1]; exact (Below.refl _ _).alloc (Nat.le_refl _) _
  rw [hw1] at hP0
  have HW1 := Lib.hid hw1
  have HB1 := Lib.hid hb1
  have HP0 := Lib.hid hP0
  clear hr hg hp hP0 hw1 hb1
  go_enter Tryz.func56, Tryz.ntmps56
  go_wp2_with (first | (rw [HW1.out]) | fail)
  clear hmm hB0
  go_loopw [9] (fun t wr => ∃ j : Nat, t = .int .i64 (j : Int) ∧ j ≤ l.length ∧ PSet wr B0 j (placesF (l.take j)) (cntFree (l.take j)) ∧ Below B0 w wr) (fun t _ => l.length - (intOf t).toNat)
  case atStart => exact ⟨0, rfl, Nat.zero_le _, HP0.out, by rw [← HB0.out]; exact HB1.out⟩
  case round =>
    obtain ⟨j, rfl, hj, hps, hbe⟩ := hrel
    by_cases hlt : j < l.length
    · obtain ⟨x, hx⟩ : ∃ x, l[j]? = some x := ⟨l[j], List.getElem?_eq_getElem hlt⟩
      obtain ⟨b2, o, rfl, hbb, hcl⟩ := HR.out (by omega)
      rw [HB0.out] at hbb
      obtain ⟨p0, p1, p2⟩ := hcl j x hx
      have ht := places_take hx
      have hn := places_new HP.out hx
      have hct := cnt_take hx
      obtain ⟨hsz, hoff⟩ := HG.out x (List.mem_of_getElem? hx)
      obtain ⟨k, hk, hk22⟩ := class_nat hsz
      have hq := (isSz_iff _).1 hsz
      have r0 := below_cells hbe p0 hbb
      have r1 := below_cells hbe p1 hbb
      have r2 := below_cells hbe p2 hbb
      obtain ⟨xo, xs, xu⟩ := x
      dsimp only at p0 p1 p2 r0 r1 r2 ht hn hct hoff hk hq
      have hBr := hps.lt
      obtain ⟨w4, hw4⟩ : ∃ w4, wr.alloc (.cells #[.int .i64 (xo : Int), .int .i64 (xs : Int), .bool xu] 51) = w4 := ⟨_, rfl⟩
      have hb4 : Below wr.heap.size wr w4 := by rw [← hw4]; exact (Below.refl _ _).alloc (Nat.le_refl _) _
      have n4 : w4.heap[wr.heap.size]? = some (.cells #[.int .i64 (xo : Int), .int .i64 (xs : Int), .bool xu] 51 (0, 0)) := by rw [← hw4]; exact heap_alloc_new wr _
      obtain ⟨⟨d0, d1, d2⟩, _⟩ := blk_cells n4
      have hlt4 := heap_lt n4
      have ps4 := hps.below hb4 hBr
      have HW4 := Lib.hid hw4
      have HB4 := Lib.hid (hbe.trans (hb4.mono (by omega)))
      cases xu with
      | true =>
        have hP : PSet w4 B0 (j + 1) (placesF (l.take (j + 1))) (cntFree (l.take (j + 1))) := by
          rw [hct]
          exact (ps4.mono (Nat.le_succ j)).same fun o k _ _ => by rw [ht]; simp
        have HPN := Lib.hid hP
        clear hx hbe hps p0 p1 p2 hb4 n4 hw4 hcl hk hsz ht hn hct ps4 hP
        go_wp2_with (first | (rw [HW4.out]) | fail)
        go_roundw
        case rel => exact ⟨j + 1, by go_num, by omega, HPN.out, HB4.out⟩
        case measure => simp only [intOf]; omega
      | false =>
        have hC := fun W => classC W (xs : Int) (by omega)
        rw [hk] at hC
        have HC := Lib.hid (hC w4.drew)
        have HPS := Lib.hid (⟨ps4, hlt4⟩ : PSet w4 B0 j (placesF (l.take j)) (cntFree (l.take j)) ∧ wr.heap.size < w4.heap.size)
        have hP : ∀ W, PSet W B0 (j + 1) (fun p' c' => placesF (l.take j) p' c' || (p' == xo && c' == k)) (cntFree (l.take j) + 1) → PSet W B0 (j + 1) (placesF (l.take (j + 1))) (cntFree (l.take (j + 1))) := fun W h => by
          rw [hct]
          refine h.same fun o k' _ _ => ?_
          rw [ht, hk]
          congr 1
          rw [Bool.eq_iff_iff]
          simp
          omega
        have HPN := Lib.hid hP
        have HN := Lib.hid (hn k)
        clear hx hbe hps p0 p1 p2 hb4 n4 hw4 hcl hk hsz ht hn hct ps4 hP hC
        go_wp2_with (first | (rw [HW4.out]) | fail)
        refine wp_region_tail w4.heap.size [([0, 1, 2, 3, 4], 5)] [6] [7] (by kernel_rfl) (by kernel_rfl) (by kernel_rfl) (fun _ _ _ _ _ h => h) ?_
        have q0 : ∀ z : LaterB w4.heap.size w4.drew, z.val.cell? ⟨wr.heap.size, 0, none⟩ = some (.int .i64 (xo : Int)) := fun z => below_cells z.ext d0 hlt4
        have q1 : ∀ z : LaterB w4.heap.size w4.drew, z.val.cell? ⟨wr.heap.size, 1, none⟩ = some (.int .i64 (xs : Int)) := fun z => below_cells z.ext d1 hlt4
        refine tail_cons (l := ?seg1) ?hseg1 ?_
        case hseg1 => simp only [pick, List.getElem?_toArray, List.getElem?_cons_succ, List.getElem?_cons_zero]; rfl
        repeat (go_big_quiet_step (fail))
        refine wpQuiet_nil ?_
        clear q0 q1
        refine tail_call (vs := #[.int .i64 (xs : Int)]) Tryz.call65 rfl rfl rfl (R := fun r w' => r = .int .i64 (k : Int) ∧ Below w4.heap.size w4.drew w') (HC.out.mono ?_) w4.heap.size (Nat.le_refl _) ?_
        · rintro e w' ⟨rfl, hb⟩
          exact ⟨_, rfl, hb, rfl, hb⟩
        rintro r w5 _ ⟨rfl, hb5⟩
        have hb6 : Below w4.heap.size w4 w5 := ⟨hb5.os, hb5.tape, hb5.output, hb5.size, hb5.block⟩
        have hs6 : w4.heap.size ≤ w5.heap.size := hb6.size
        have hps5 := HPS.out.1.below hb6 (by omega)
        refine tail_last (l := ?la1) (t := ?tl1) ?hla1 ?htl1 ?_
        case hla1 => simp only [pick, List.getElem?_toArray, List.getElem?_cons_succ, List.getElem?_cons_zero]; rfl
        case htl1 => simp only [pick, List.getElem?_toArray, List.getElem?_cons_succ, List.getElem?_cons_zero]; rfl
        simp only [Act.put, List.setIfInBounds_toArray, List.set_cons_zero, List.set_cons_succ]
        repeat (go_big_quiet_step (fail))
        refine wpQuiet_nil ?_
        refine wp_ps_put rfl _ _ _ rfl rfl hps5 (by unfold maxLen; omega) xo k (by omega) (by omega) rfl rfl HN.out ?_
        intro w6 hp6 ht6
        have HP6 := Lib.hid (HPN.out w6 hp6)
        have HB6 := Lib.hid ((HB4.out.trans (hb6.mono (by omega))).trans (ht6.below (B := B0) (fun q hq => by omega) (by omega)))
        clear hp6 ht6 hps5 hb5 hb6 hs6
        go_wp2
        go_roundw
        case rel => exact ⟨j + 1, by go_num, by omega, HP6.out, HB6.out⟩
        case measure => simp only [intOf]; omega
    · have e : l.take j = l := List.take_of_length_le (by omega)
      rw [e] at hps
      have HPS := Lib.hid (hps.mono (n' := l.length) (by omega))
      have HB := Lib.hid hbe
      clear hbe hps e
      go_wp2
      go_ret
      exact ⟨by rw [HB0.out]; rfl, by rw [HB0.out]; exact HPS.out, by rw [HB0.out]; exact HB.out⟩
end Go.Proofs.YtbemaoncakcnjaaGreat

/- The contract of the program's Check. -/
namespace Go.Proofs.YtbemaoncakcnjaaGreat
open Go.RowKit

theorem okO_no {l : List Bk} {all : List Nat} {j o : Nat} (ho : all[j]? = some o) (h : (foundB l o && !(all.take j).contains o) = false) : all.all (okO l all) = false := by
  rw [List.all_eq_false]
  refine ⟨o, List.mem_of_getElem? ho, ?_⟩
  unfold okO
  cases hf : foundB l o
  · simp
  · rw [hf, Bool.true_and, Bool.not_eq_false', List.contains_iff_mem] at h
    obtain ⟨hj, e⟩ := List.getElem?_eq_some_iff.1 ho
    have h1 : 0 < (all.take j).count o := List.count_pos_iff.2 h
    have h2 : 0 < (all.drop j).count o := List.count_pos_iff.2 (by rw [List.drop_eq_getElem_cons hj, e]; exact List.mem_cons_self)
    have h3 : all.count o = (all.take j).count o + (all.drop j).count o := by
      rw [← List.count_append, List.take_append_drop]
    have : (all.count o == 1) = false := by rw [beq_eq_false_iff_ne]; omega
    rw [this]; simp
theorem okO_yes {l : List Bk} {all : List Nat} (hn : all.Nodup) (h : ∀ o ∈ all, foundB l o = true) : all.all (okO l all) = true := by
  rw [List.all_eq_true]
  intro o ho
  unfold okO
  have h1 : 0 < all.count o := List.count_pos_iff.2 ho
  have h2 := List.nodup_iff_count.1 hn o
  rw [h o ho, show all.count o = 1 by omega]
  rfl
theorem take_one {all : List Nat} {j o : Nat} (ho : all[j]? = some o) : all.take (j + 1) = all.take j ++ [o] := by
  rw [List.take_add_one, ho]; rfl
theorem nodup_one {all : List Nat} {j o : Nat} (ho : all[j]? = some o) (hn : (all.take j).Nodup) (h : (all.take j).contains o = false) : (all.take (j + 1)).Nodup := by
  rw [take_one ho, List.nodup_append]
  refine ⟨hn, by simp, fun a ha b hb e => ?_⟩
  obtain rfl : b = o := by simpa using hb
  subst e
  rw [List.contains_iff_mem.2 ha] at h
  cases h
theorem places_member {bs : List UInt8} {l : List Bk} (hg : ∀ x ∈ l, getB bs (x.off : Int) = some x) {o k : Nat} (h : memberB bs o (k : Int) = true) : placesF l o k = foundB l o := by
  unfold placesF foundB
  rw [Bool.eq_iff_iff, List.any_eq_true, List.any_eq_true]
  unfold memberB at h
  refine exists_congr fun x => and_congr_right fun hx => ?_
  have h1 := hg x hx
  by_cases e : x.off = o
  · rw [← e, h1] at h
    dsimp only at h
    rw [Bool.and_eq_true, Bool.and_eq_true] at h
    rw [h.2.1, h.2.2]
    simp
  · have : (x.off == o) = false := by rw [beq_eq_false_iff_ne]; exact e
    rw [this]; simp
theorem BkRd.later {w w' : World} {B B' : Nat} {A : Option Addr} {l : List Bk} (h : BkRd w B A l) (hb : Below B w w') (hB : B ≤ B') : BkRd w' B' A l := fun h0 => by
  obtain ⟨b, o, e, hbb, hc⟩ := h h0
  refine ⟨b, o, e, by omega, fun j x hx => ?_⟩
  obtain ⟨p0, p1, p2⟩ := hc j x hx
  exact ⟨below_cells hb p0 hbb, below_cells hb p1 hbb, below_cells hb p2 hbb⟩
theorem tch_cells {S : Nat → Prop} {w w' : World} (h : Tch S w w') {b j : Nat} {v : Value} (hc : w.cell? ⟨b, j, none⟩ = some v) (hb : b < w.heap.size) (hn : ¬ S b) : w'.cell? ⟨b, j, none⟩ = some v :=
  (World.cell?_of_block (w := w) (a := ⟨b, j, none⟩) (h.block b hb hn)).trans hc

/-- What is left of the places behind some of a list. -/
def leftF (f : Nat → Nat → Bool) (d : Nat) (m : List Nat) : Nat → Nat → Bool := fun o k => f o k && !(k == d && m.contains o)

set_option maxRecDepth 100000 in
set_option maxHeartbeats 4000000 in
theorem clists_any (w0 w : World) (g base cap c : Nat) (A : Option Addr) (bs : List UInt8) (h : Ar w0 92 g base cap A c bs) (hb : base ≤ 4611686018427387904) (hl : bs.length ≤ 16384) (hw : Below w0.heap.size w0 w)
    (B n z : Nat) (f : Nat → Nat → Bool) (hps : PSet w B n f z) (hB : w0.heap.size ≤ B) (l : List Bk) (hf : ∀ k : Nat, k < 22 → ∀ o, memberB bs o (k : Int) = true → f o k = foundB l o) (y : Bool) (hy : chkC bs l 22 0 (z : Int) = y) :
    Calls Tryz.prog 55 #[.pointer (some ⟨g, 0, none⟩), .map (some B)] w fun e w' => e = .returned (.bool y) ∧ Below w0.heap.size w0 w' := by
  have HAR := Lib.hid h
  have HBASE := Lib.hid hb
  have HW := Lib.hid hw
  have HPS := Lib.hid hps
  have HF := Lib.hid hf
  have HY := Lib.hid hy
  clear h hb hw hps hf hy
  go_enter Tryz.func55, Tryz.ntmps55
  go_wp2
  go_loopw [11] (fun t wr => ∃ (d k z : Nat) (f : Nat → Nat → Bool), t = .int .i64 (d : Int) ∧ d + k = 22 ∧ y = chkC bs l k d (z : Int) ∧ PSet wr B n f z ∧ (∀ k' : Nat, d ≤ k' → k' < 22 → ∀ o, memberB bs o (k' : Int) = true → f o k' = foundB l o) ∧ Below w0.heap.size w0 wr) (fun t _ => 22 - (intOf t).toNat)
  case atStart => exact ⟨0, 22, z, f, rfl, rfl, HY.out.symm, HPS.out, fun k' _ h => HF.out k' h, HW.out⟩
  case round =>
    clear HPS HF HY HW
    obtain ⟨d, k, z, f, rfl, hdk, hyk, hps, hfm, hbe⟩ := hrel
    generalize wr = wq at *
    by_cases hd22 : d < 22
    · obtain ⟨k, rfl⟩ : ∃ k', k = k' + 1 := ⟨k - 1, by omega⟩
      have har : Ar wq 92 g base cap A c bs := HAR.out.below hbe
      have hBq := hps.lt
      cases ha : allB bs d with
      | none =>
        obtain rfl : y = false := by rw [hyk]; simp [chkC, ha]
        have hA := allC wq g base cap c A bs d _ har HBASE.out hl hd22 ha
        dsimp only [NumsTold, Option.isSome, Option.getD, errV] at hA
        have HA := Lib.hid hA
        have HB := Lib.hid hbe
        clear hA hbe hyk har ha HAR hps hfm
        go_wp2_with fail
        with_reducible refine HA.out.mono ?_
        rintro e w2 ⟨A', c', rfl, _, hb3⟩
        have HB2 := Lib.hid (HB.out.trans (hb3.mono (by omega)))
        clear hb3
        go_wp2
        go_ret
        exact ⟨rfl, HB2.out⟩
      | some all =>
        have hA := allC wq g base cap c A bs d _ har HBASE.out hl hd22 ha
        dsimp only [NumsTold, Option.isSome, Option.getD, errV] at hA
        have hyk' : y = (all.all (okO l all) && chkC bs l k (d + 1) ((z : Int) - all.length)) := by
          rw [hyk]
          conv => lhs; unfold chkC
          rw [ha] <;> rfl
        have hmem : ∀ o ∈ all, memberB bs o (d : Int) = true ∧ o ≤ 20000 := fun o ho => ⟨allB_member ha o ho, (memberB_get (allB_member ha o ho)).1⟩
        have hal := allB_len ha
        have HA := Lib.hid hA
        have HB := Lib.hid hbe
        have HYK := Lib.hid hyk'
        have HMEM := Lib.hid hmem
        have HPS := Lib.hid hps
        have HFM := Lib.hid hfm
        clear hA hbe hyk hyk' har ha hps hfm hmem
        go_wp2_with fail
        with_reducible refine HA.out.mono ?_
        rintro e w2 ⟨A2, c2, rfl, ho2, hb3⟩
        have HO2 := Lib.hid ho2
        have HB2 := Lib.hid (HB.out.trans (hb3.mono (by omega)))
        have HPS2 := Lib.hid (HPS.out.below hb3 hBq)
        have hs2 := hb3.size
        clear hb3 ho2 HA HB HPS
        go_wp2
        go_loopw [24] (fun t wi => ∃ j z' : Nat, t = .int .i64 (j : Int) ∧ j ≤ all.length ∧ z' + j = z ∧ (all.take j).Nodup ∧ (∀ o ∈ all.take j, foundB l o = true) ∧ PSet wi B n (leftF f d (all.take j)) z' ∧ Tch (fun q => q = B) w2 wi) (fun t _ => all.length - (intOf t).toNat)
        case atStart => exact ⟨0, z, rfl, Nat.zero_le _, by omega, by simp, by simp, HPS2.out.same (fun o k _ _ => by simp [leftF]), Tch.refl _ _⟩
        case round =>
          clear HPS2
          obtain ⟨j, z', rfl, hj, hz, hnd, hfd, hps, htc⟩ := hrel
          by_cases hlt : j < all.length
          · obtain ⟨o, ho⟩ : ∃ o, all[j]? = some o := ⟨all[j], List.getElem?_eq_getElem hlt⟩
            obtain ⟨hmo, ho2⟩ := HMEM.out o (List.mem_of_getElem? ho)
            obtain ⟨b2, o2, rfl, hbb, hcl⟩ := own_ints HO2.out rfl (by simp [nats]; omega)
            have hbB : wq.heap.size ≤ b2 := (HO2.out.lt b2 rfl).1
            have p0 := hcl j (o : Int) (by simp [nats, ho])
            have r0 := tch_cells htc p0 hbb (by omega)
            have hff := HFM.out d (Nat.le_refl _) hd22 o hmo
            obtain ⟨bb, hbbv⟩ : ∃ bb, (foundB l o && !(all.take j).contains o) = bb := ⟨_, rfl⟩
            have hlook : leftF f d (all.take j) o d = bb := by
              unfold leftF
              rw [hff, ← hbbv]; simp
            have hBi := hps.lt
            obtain ⟨w4, hw4⟩ : ∃ w4, wr.alloc (.cells #[.int .i64 (o : Int), .int .i64 (d : Int)] 137) = w4 := ⟨_, rfl⟩
            have hb4 : Below wr.heap.size wr w4 := by rw [← hw4]; exact (Below.refl _ _).alloc (Nat.le_refl _) _
            have n4 : w4.heap[wr.heap.size]? = some (.cells #[.int .i64 (o : Int), .int .i64 (d : Int)] 137 (0, 0)) := by rw [← hw4]; exact heap_alloc_new wr _
            have d0 := cell_of_row w4 wr.heap.size 0 _ _ (0, 0) n4
            have d1 := cell_of_row w4 wr.heap.size 1 _ _ (0, 0) n4
            simp only [List.getElem?_toArray, List.getElem?_cons_zero, List.getElem?_cons_succ] at d0 d1
            have HW4 := Lib.hid hw4
            have HP4 := Lib.hid (hps.below hb4 hBi)
            have HT4 := Lib.hid (htc.trans (S' := fun q => q = B) (Tch.of_below hb4) (fun _ _ h => h))
            have HLK := Lib.hid hlook
            have HBBV := Lib.hid hbbv
            have HND := Lib.hid hnd
            have HFD := Lib.hid hfd
            have HO := Lib.hid ho
            clear ho hmo hcl p0 hff hlook hbbv hps htc hb4 n4 hw4 hnd hfd HAR HO2 HMEM HFM
            cases bb with
            | false =>
              obtain rfl : y = false := by rw [HYK.out, okO_no HO.out HBBV.out]; rfl
              have HE := Lib.hid (HB2.out.trans (HT4.out.below (B := w0.heap.size) (fun q hq => by omega) (by omega)))
              clear HB2 HT4 HYK
              go_wp2_with (first | (rw [HW4.out]) | (at_lookup; refine wp_ps_look rfl _ _ rfl rfl HP4.out o d (by omega) (by omega) rfl false HLK.out ?_) | fail)
              go_ret
              exact ⟨rfl, HE.out⟩
            | true =>
              go_wp2_with (first | (rw [HW4.out]) | (at_lookup; refine wp_ps_look rfl _ _ rfl rfl HP4.out o d (by omega) (by omega) rfl true HLK.out ?_) | (at_delete; refine wp_ps_del rfl _ _ rfl rfl HP4.out o d (by omega) (by omega) rfl HLK.out ?_; intro w5 z5 hz5 hp5 ht5; have HP5 := Lib.hid hp5; have HT5 := Lib.hid (HT4.out.trans ht5 (fun _ _ h => h)); have HZ5 := Lib.hid hz5; clear hp5 ht5 hz5) | fail)
              go_roundw
              case rel =>
                have hno : (all.take j).contains o = false := by
                  have := HBBV.out
                  rw [Bool.and_eq_true, Bool.not_eq_true'] at this
                  exact this.2
                have hyes : foundB l o = true := by
                  have := HBBV.out
                  rw [Bool.and_eq_true] at this
                  exact this.1
                refine ⟨j + 1, z5, by go_num, by omega, by have := HZ5.out; omega, nodup_one HO.out HND.out hno, fun q hq => ?_, ?_, HT5.out⟩
                · rw [take_one HO.out, List.mem_append] at hq
                  rcases hq with hq | hq
                  · exact HFD.out q hq
                  · obtain rfl : q = o := by simpa using hq
                    exact hyes
                · refine HP5.out.same fun q k' _ _ => ?_
                  unfold leftF
                  rw [take_one HO.out, Bool.and_assoc]
                  congr 1
                  rw [Bool.eq_iff_iff]
                  simp
                  by_cases e1 : k' = d <;> by_cases e2 : q = o <;> simp [e1, e2]
              case measure => simp only [intOf]; omega
          · have ejl : j = all.length := by omega
            have et : all.take j = all := List.take_of_length_le (by omega)
            rw [et] at hnd hfd hps
            have hyn : y = chkC bs l k (d + 1) (z' : Int) := by
              rw [HYK.out, okO_yes hnd hfd, Bool.true_and]
              congr 1
              omega
            have HYN := Lib.hid hyn
            have HP := Lib.hid hps
            have HE := Lib.hid (HB2.out.trans (htc.below (B := w0.heap.size) (fun q hq => by omega) (by omega)))
            clear hyn hps htc hnd hfd et ejl HYK HB2 HO2
            go_wp2
            go_roundw
            case rel =>
              refine ⟨d + 1, k, z', leftF f d all, by go_num, by omega, HYN.out, HP.out, fun k' h1 h2 q hq => ?_, HE.out⟩
              have : (k' == d) = false := by rw [beq_eq_false_iff_ne]; omega
              unfold leftF
              rw [this, Bool.false_and, Bool.not_false, Bool.and_true]
              exact HFM.out k' (by omega) h2 q hq
            case measure => simp only [intOf]; omega
    · obtain ⟨rfl, rfl⟩ : d = 22 ∧ k = 0 := by omega
      have hyz : y = ((z : Int) == 0) := hyk
      have HYZ := Lib.hid hyz
      have HPS := Lib.hid hps
      have HB := Lib.hid hbe
      clear hyz hyk hps hbe hfm HAR
      go_wp2_with (first | (at_len; refine wp_ps_len rfl _ rfl rfl HPS.out ?_) | fail)
      go_ret
      exact ⟨rt_b HYZ.out.symm, HB.out⟩
end Go.Proofs.YtbemaoncakcnjaaGreat

/- The contract of the program's Check: all of it. -/
namespace Go.Proofs.YtbemaoncakcnjaaGreat
open Go.RowKit

set_option maxRecDepth 100000 in
set_option maxHeartbeats 2000000 in
theorem checkC : CheckC := by
  intro w g base cap c A bs x h hb hl hx
  cases hw : walkB bs with
  | none =>
    obtain rfl : false = x := by rw [← hx]; unfold checkB; rw [hw]
    have hW := walkC w g base cap c A bs _ h hb hl hw
    dsimp only [BlksTold, Option.isSome, Option.getD, errV] at hW
    dsimp only [errV]
    have HW := Lib.hid hW
    clear hW hw hx h hb
    go_enter Tryz.func22, Tryz.ntmps22
    go_wp2_with fail
    with_reducible refine HW.out.mono ?_
    rintro e w2 ⟨A', c', rfl, _, hb2⟩
    have HB2 := Lib.hid hb2
    clear hb2
    go_wp2
    go_ret
    exact ⟨rfl, HB2.out⟩
  | some l =>
    obtain ⟨h184, ht, hg⟩ := walkB_tiles hw
    have hm := tile_mem l _ _ ht
    obtain ⟨y1, hy1⟩ : ∃ y, noAdj l = y := ⟨_, rfl⟩
    obtain ⟨y2, hy2⟩ : ∃ y, decide (wordN bs 0 < 4194304) = y := ⟨_, rfl⟩
    obtain ⟨y3, hy3⟩ : ∃ y, chkC bs l 22 0 (cntFree l) = y := ⟨_, rfl⟩
    have e0 : numO bs 0 = wordN bs 0 := by unfold numO word?; rw [if_pos (by omega)]; rfl
    have hx' : (y2 && (y1 && y3)) = x := by
      rw [← hx]
      unfold checkB
      rw [hw]
      dsimp only
      rw [e0, hy1, hy2, hy3]
    have hll := walkB_len hw
    have hW := walkC w g base cap c A bs _ h hb hl hw
    dsimp only [BlksTold, Option.isSome, Option.getD, errV] at hW
    have HW := Lib.hid hW
    have HAR := Lib.hid h
    have HBASE := Lib.hid hb
    have HG : Hid (∀ x ∈ l, isSz (x.size : Int) = true ∧ x.off ≤ 100000) := fun x hx => ⟨(hm.2 x hx).2.2.1, by have := (hm.2 x hx).2.1; omega⟩
    have HPM : Hid (∀ k : Nat, k < 22 → ∀ o, memberB bs o (k : Int) = true → placesF l o k = foundB l o) := fun k _ o ho => places_member hg ho
    have HR := Lib.hid (tile_rises l _ _ ht)
    have HY1 := Lib.hid hy1
    have HY2 := Lib.hid hy2
    have HY3 := Lib.hid hy3
    clear hW hw hx h hb ht hg hm hy1 hy2 hy3 e0
    go_enter Tryz.func22, Tryz.ntmps22
    go_wp2_with fail
    with_reducible refine HW.out.mono ?_
    rintro e w2 ⟨A2, c2, rfl, ho2, hb2⟩
    have hcl : l.length ≤ c2 ∧ c2 ≤ 9223372036854775807 := by
      rcases ho2.2 with ⟨h', h0⟩ | ⟨_, _, _, h', _, _, h1, h2, _⟩
      · injection h' with _ _ e; rw [h0, e]; omega
      · injection h' with _ _ e; unfold maxLen at h2; omega
    have hr2 := BkRd.of_own ho2
    have HR2 := Lib.hid hr2
    have HB2 := Lib.hid hb2
    have HADJ := Lib.hid (cadj_any w2 A2 c2 l hr2 hcl y1 HY1.out)
    have hs2 := hb2.size
    clear ho2 hr2 hb2 HW
    go_wp2_with fail
    with_reducible refine HADJ.out.mono ?_
    rintro e w3 ⟨rfl, hb3⟩
    have hr3 := HR2.out.later hb3 hb3.size
    have HB3 := Lib.hid (HB2.out.trans (hb3.mono hs2))
    have hs3 := hb3.size
    clear hb3 HR2 HB2 HADJ
    cases y1 with
    | false =>
      obtain rfl : false = x := by rw [← hx']; simp
      clear HAR HG HPM hr3 hx'
      dsimp only [errV]
      go_wp2
      go_ret
      exact ⟨rfl, HB3.out⟩
    | true =>
      have HBT := Lib.hid (cbits_any (HAR.out.below HB3.out) HBASE.out hl h184 y2 HY2.out)
      have HPL := Lib.hid (cplaces_any w3 A2 c2 l hr3 (by omega) HR.out HG.out)
      clear hr3
      go_wp2_with fail
      with_reducible refine HBT.out.mono ?_
      rintro e w4 ⟨rfl, rfl⟩
      cases y2 with
      | false =>
        obtain rfl : false = x := by rw [← hx']; simp
        clear HAR HG HPM hx' HBT HPL
        dsimp only [errV]
        go_wp2
        go_ret
        exact ⟨rfl, HB3.out⟩
      | true =>
        obtain rfl : y3 = x := by rw [← hx']; simp
        go_wp2_with fail
        with_reducible refine HPL.out.mono ?_
        rintro e w4 ⟨rfl, hps4, hb4⟩
        have HLS := Lib.hid (clists_any w w4 g base cap c A bs HAR.out HBASE.out hl (HB3.out.trans (hb4.mono (by omega))) w3.heap.size l.length (cntFree l) (placesF l) hps4 (by omega) l HPM.out y3 HY3.out)
        clear HAR HG HPM hx' HBT HPL hps4 hb4
        go_wp2_with fail
        with_reducible refine HLS.out.mono ?_
        rintro e w5 ⟨rfl, hb5⟩
        have HB5 := Lib.hid hb5
        clear hb5 HLS
        cases y3 with
        | false =>
          dsimp only [errV]
          go_wp2
          go_ret
          exact ⟨rfl, HB5.out⟩
        | true =>
          dsimp only [errV]
          go_wp2
          go_ret
          exact ⟨rfl, HB5.out⟩
end Go.Proofs.YtbemaoncakcnjaaGreat

/- The program's image in the making; what used blocks hold (genof.py). -/
namespace Go.Proofs.YtbemaoncakcnjaaGreat
open Go.RowKit

structure ImP (B g : Nat) (N : Int) (A1 : Option Addr) (c1 : Nat) (l : List Rk) (A2 : Option Addr) (c2 : Nat) (d : List (List UInt8)) (xs : List Value) (w : World) : Prop where
  obj : w.heap[g]? = some (.cells #[.int .i64 N, .slice A1 l.length c1, .slice A2 d.length c2] 31 (0, 0))
  rl : w.ownsRow B 51 3 (.slice A1 l.length c1) l.length (flatR l)
  rd : w.ownsRow B 23 1 (.slice A2 d.length c2) d.length xs
  dt : DtO w d xs
  hB : B ≤ g
  hl : rkIn l
section
variable {B g n : Nat} {N : Int} {A1 A2 : Option Addr} {c1 c2 : Nat} {l : List Rk} {d : List (List UInt8)} {xs : List Value} {w w3 w4 w' : World}
theorem ImP.stay (h : ImP B g N A1 c1 l A2 c2 d xs w) (hb : Below w.heap.size w w') : ImP B g N A1 c1 l A2 c2 d xs w' :=
  ⟨(hb.block _ (heap_lt1 h.obj)).trans h.obj, own_stay h.rl hb (own_ltB h.rl), own_stay h.rd hb (own_ltB h.rd), h.dt.stay hb, h.hB, h.hl⟩
theorem ImP.lt (h : ImP B g N A1 c1 l A2 c2 d xs w) : g < w.heap.size := heap_lt1 h.obj
theorem ImP.rkrd (h : ImP B g N A1 c1 l A2 c2 d xs w) : RkRd w w.heap.size A1 l := rk_of_row h.rl h.hl
theorem ImP.off (h : ImP B g N A1 c1 l A2 c2 d xs w) {k : Nat} {cs : Array Value} {fz : Nat × Nat} {t : TypeId} (hk : w.heap[k]? = some (.cells cs t fz)) (ht : t ≠ 31) : g ≠ k := fun e => by
  subst e
  have h2 := h.obj
  rw [hk] at h2
  injection h2 with h2
  injection h2 with _ h2 _
  exact ht h2
/-- One more that holds something. -/
theorem ImP.pushD (h : ImP B g N A1 c1 l A2 c2 d xs w3) {y : List UInt8} {A : Option Addr} {k : Nat} {v : Value} (hy : y.length ≤ 100000) (oy : w3.ownsRow 0 5 1 (.slice A y.length k) y.length (y.map bv)) (own : w4.ownsRow B 23 1 v (d.length + 1) (xs ++ [.slice A y.length k])) (gr : w3.grownBy w4 (Value.slice A2 d.length c2).ownBlock) {B0 : Nat} {w0 : World} (hb : Below B0 w0 w3) (hB0 : B0 ≤ B) (hw0 : B0 ≤ w3.heap.size) :
    ∃ A2' c2', v = .slice A2' (d.length + 1) c2' ∧ w4.heap[g]? = w3.heap[g]? ∧ ImP B g N A1 c1 l A2' c2' (d ++ [y]) (xs ++ [.slice A y.length k]) (w4.setCell ⟨g, 2, none⟩ v) ∧ Below B0 w0 (w4.setCell ⟨g, 2, none⟩ v) := by
  have hrow := own_row h.rd
  have hg4 : w4.heap[g]? = w3.heap[g]? := gr.block g h.lt fun e => by
    obtain ⟨cs, fz, hc⟩ := hrow g e.symm
    exact h.off hc (by decide) rfl
  have obj4 := hg4.trans h.obj
  obtain ⟨A', c, rfl, _⟩ := own_slc own
  have hrl4 : w4.ownsRow B 51 3 (.slice A1 l.length c1) l.length (flatR l) := own_off h.rl gr fun k hk hrk => by
    obtain ⟨cs, fz, hc⟩ := hrow k hrk
    exact own_typ h.rl hk hc (by decide)
  have hlx : xs.length = d.length := by have := h.rd.1; omega
  have hdt4 : DtO w4 (d ++ [y]) (xs ++ [.slice A y.length k]) := (h.dt.grown gr fun k hk => by
    obtain ⟨cs, fz, hc⟩ := hrow k hk
    exact ⟨cs, _, fz, by decide, hc⟩).snoc hlx hy (own_off oy gr fun k hk hrk => by
      obtain ⟨cs, fz, hc⟩ := hrow k hrk
      exact own_typ oy hk hc (by decide))
  have gs := grown_set w4 g 2 (.slice A' (d.length + 1) c)
  have ge : ∀ k, (Value.slice A2 d.length c2).ownBlock = some k → B0 ≤ k := fun k hk => Nat.le_trans hB0 (own_ge h.rd k hk)
  refine ⟨A', c, rfl, hg4, ⟨?_, ?_, ?_, ?_, h.hB, h.hl⟩, ?_⟩
  · rw [List.length_append, List.length_singleton]
    exact heap_setCell_same w4 g 2 _ _ _ obj4
  · exact own_off hrl4 gs fun k hk hrk => by injection hrk with hrk; subst hrk; exact own_typ hrl4 hk obj4 (by decide)
  · rw [List.length_append, List.length_singleton]
    exact own_off own gs fun k hk hrk => by injection hrk with hrk; subst hrk; exact own_typ own hk obj4 (by decide)
  · exact hdt4.grown gs fun k hrk => by injection hrk with hrk; subst hrk; exact ⟨_, _, _, by decide, obj4⟩
  · exact (hb.grown gr hw0 ge).setCell (p := ⟨g, 2, none⟩) (Nat.le_trans hB0 h.hB) _
end
section
variable {B g : Nat} {N : Int} {A1 A2 : Option Addr} {c1 c2 : Nat} {l : List Rk} {d : List (List UInt8)} {xs : List Value} {w : World}
/-- The image laid into the result's block. -/
theorem ImP.laid (h : ImP B g N A1 c1 l A2 c2 d xs w) {g0 : Nat} (hg0 : g0 < B) {x0 x1 x2 : Value} (hg : w.heap[g0]? = some (.cells #[x0, x1, x2] 31 (0, 0))) (y0 y1 y2 : Value) :
    RkRd (((w.setCell ⟨g0, 0, none⟩ y0).setCell ⟨g0, 1, none⟩ y1).setCell ⟨g0, 2, none⟩ y2) (((w.setCell ⟨g0, 0, none⟩ y0).setCell ⟨g0, 1, none⟩ y1).setCell ⟨g0, 2, none⟩ y2).heap.size A1 l ∧ DtRd (((w.setCell ⟨g0, 0, none⟩ y0).setCell ⟨g0, 1, none⟩ y1).setCell ⟨g0, 2, none⟩ y2) (((w.setCell ⟨g0, 0, none⟩ y0).setCell ⟨g0, 1, none⟩ y1).setCell ⟨g0, 2, none⟩ y2).heap.size A2 d := by
  have s0 := grown_set w g0 0 y0
  have k1 := heap_setCell_same w g0 0 _ _ y0 hg
  have s1 := grown_set (w.setCell ⟨g0, 0, none⟩ y0) g0 1 y1
  have k2 := heap_setCell_same _ g0 1 _ _ y1 k1
  have s2 := grown_set ((w.setCell ⟨g0, 0, none⟩ y0).setCell ⟨g0, 1, none⟩ y1) g0 2 y2
  have hr : ∀ {w1 w2 : World} {t : TypeId} {size n : Nat} {v : Value} {ys : List Value}, w1.ownsRow B t size v n ys → w1.grownBy w2 (some g0) → w2.ownsRow B t size v n ys := fun ho hgr => own_off ho hgr fun k hk hrk => by
    injection hrk with hrk
    have := own_ge ho k hk
    omega
  have r1 := hr (hr (hr h.rl s0) s1) s2
  have r2 := hr (hr (hr h.rd s0) s1) s2
  have d1 := h.dt.grown s0 fun k hrk => by injection hrk with hrk; subst hrk; exact ⟨_, _, _, by decide, hg⟩
  have d2 := d1.grown s1 fun k hrk => by injection hrk with hrk; subst hrk; exact ⟨_, _, _, by decide, k1⟩
  have d3 := d2.grown s2 fun k hrk => by injection hrk with hrk; subst hrk; exact ⟨_, _, _, by decide, k2⟩
  exact ⟨rk_of_row r1 h.hl, d3.rd r2⟩
end
/-- Blocks as they are drawn. -/
def toR (x : Bk) : Rk := ⟨(x.off : Int), (x.size : Int), x.used⟩
theorem flatK_R : ∀ l : List Bk, flatK l = flatR (l.map toR)
  | [] => rfl
  | x :: r => by
    rw [List.map_cons, flatK, flatR, ← flatK_R r]
    rfl
/-- What used blocks hold. -/
def ofD (bs : List UInt8) : List Bk → List (List UInt8)
  | [] => []
  | x :: r => if x.used then (bs.drop (x.off + 8)).take (x.size - 16) :: ofD bs r else ofD bs r
theorem ofD_le (bs : List UInt8) : ∀ l : List Bk, (ofD bs l).length ≤ l.length
  | [] => Nat.le_refl _
  | x :: l => by
    have := ofD_le bs l
    unfold ofD
    cases hu : x.used <;> simp <;> omega
theorem tiles_in {bs : List UInt8} {l : List Bk} (h : walkB bs = some l) (hl : bs.length ≤ 16384) : rkIn (l.map toR) ∧ l.length * 32 ≤ bs.length ∧ ∀ x ∈ l, 184 ≤ x.off ∧ x.off + x.size ≤ bs.length ∧ isSz (x.size : Int) = true := by
  obtain ⟨h184, ht, _⟩ := walkB_tiles h
  have hm := (tile_mem _ _ _ ht).2
  have hn : ∀ (l : List Bk) (o e : Nat), tile o l e → o + l.length * 32 ≤ e := by
    intro l
    induction l with
    | nil => intro o e h; have : o = e := h; simp; omega
    | cons x r ih =>
      intro o e ⟨_, h2, h3⟩
      have := ih _ _ h3
      have := (isSz_iff _).1 h2
      rw [List.length_cons]
      omega
  have := hn _ _ _ ht
  refine ⟨fun x hx => ?_, by omega, fun x hx => ?_⟩
  · obtain ⟨y, hy, rfl⟩ := List.mem_map.1 hx
    obtain ⟨h1, h2, h3, _⟩ := hm y hy
    unfold toR
    dsimp only
    omega
  · obtain ⟨h1, h2, h3, _⟩ := hm x hx
    exact ⟨h1, h2, h3⟩
end Go.Proofs.YtbemaoncakcnjaaGreat

/- The program's Of: an arena's image (genof.py). -/
namespace Go.Proofs.YtbemaoncakcnjaaGreat
open Go.RowKit

set_option maxRecDepth 100000 in
set_option maxHeartbeats 1000000 in
theorem imof_no (w : World) (g base cap c : Nat) (A : Option Addr) (bs : List UInt8) (har : Ar w 92 g base cap A c bs) (hbase : base ≤ 4611686018427387904) (hl : bs.length ≤ 16384) (hck : checkB bs = false) :
    Calls Tryz.prog 6 #[.pointer (some ⟨g, 0, none⟩)] w fun e w' => e = .returned (.tuple #[.agg #[.int .i64 0, .slice none 0 0, .slice none 0 0], .iface 63 (.int .i64 3)]) ∧ Below w.heap.size w w' := by
  obtain ⟨w1, hw1⟩ : ∃ w1, w.alloc (.cells #[.int .i64 0, .slice none 0 0, .slice none 0 0] 31) = w1 := ⟨_, rfl⟩
  have hb1 : Below w.heap.size w w1 := by rw [← hw1]; exact (Below.refl _ _).alloc (Nat.le_refl _) _
  have n1 : w1.heap[w.heap.size]? = some (.cells #[.int .i64 0, .slice none 0 0, .slice none 0 0] 31 (0, 0)) := by rw [← hw1]; exact heap_alloc_new w _
  have HC := Lib.hid (checkC w1 g base cap c A bs false (har.below hb1) hbase hl hck)
  dsimp only [errV] at HC
  have HW1 := Lib.hid hw1
  have HB1 := Lib.hid hb1
  have HN1 := Lib.hid n1
  clear har hck hw1 hb1 n1
  go_enter Tryz.func6, Tryz.ntmps6
  go_wp2_with (first | (rw [HW1.out]) | fail)
  refine HC.out.mono ?_
  rintro e w2 ⟨rfl, hb2⟩
  have n2 := (hb2.block _ (heap_lt1 HN1.out)).trans HN1.out
  have hl2 := heap_lt1 n2
  obtain ⟨f0, f1, f2⟩ := im_thaw n2
  obtain ⟨z0, z1, z2⟩ := rk_cells n2
  have HM := Lib.hid (im_set n2 (.int .i64 0) (.slice none 0 0) (.slice none 0 0))
  have HF := Lib.hid ((((HB1.out.trans (hb2.mono HB1.out.size)).setCell (p := ⟨w.heap.size, 0, none⟩) (Nat.le_refl _) (.int .i64 0)).setCell (p := ⟨w.heap.size, 1, none⟩) (Nat.le_refl _) (.slice none 0 0)).setCell (p := ⟨w.heap.size, 2, none⟩) (Nat.le_refl _) (.slice none 0 0))
  clear n2 hb2
  go_wp2
  (try simp only [Exit.inBlock, Exit.then])
  refine im_ret (g := w.heap.size) (x := .iface 63 (.int .i64 3)) Tryz.results6 ?_ ?_ ?_ HM.out ?_
  · rfl
  · rfl
  · rfl
  · exact ⟨rfl, HF.out⟩
set_option maxRecDepth 100000 in
set_option maxHeartbeats 2000000 in
theorem imof_ok (w : World) (g base cap c : Nat) (A : Option Addr) (bs : List UInt8) (l : List Bk) (har : Ar w 92 g base cap A c bs) (hbase : base ≤ 4611686018427387904) (hl : bs.length ≤ 16384) (hck : checkB bs = true) (hwk : walkB bs = some l) :
    Calls Tryz.prog 6 #[.pointer (some ⟨g, 0, none⟩)] w fun e w' => ∃ A1 A2 c1 c2, e = .returned (.tuple #[.agg #[.int .i64 (bs.length : Int), .slice A1 l.length c1, .slice A2 (ofD bs l).length c2], .nilIface]) ∧ RkRd w' w'.heap.size A1 (l.map toR) ∧ DtRd w' w'.heap.size A2 (ofD bs l) ∧ Below w.heap.size w w' := by
  obtain ⟨hin, hll32, hmem⟩ := tiles_in hwk hl
  obtain ⟨F, hF⟩ : ∃ F, ofD bs l = F := ⟨_, rfl⟩
  rw [hF]
  obtain ⟨w1, hw1⟩ : ∃ w1, w.alloc (.cells #[.int .i64 0, .slice none 0 0, .slice none 0 0] 31) = w1 := ⟨_, rfl⟩
  have hb1 : Below w.heap.size w w1 := by rw [← hw1]; exact (Below.refl _ _).alloc (Nat.le_refl _) _
  have n1 : w1.heap[w.heap.size]? = some (.cells #[.int .i64 0, .slice none 0 0, .slice none 0 0] 31 (0, 0)) := by rw [← hw1]; exact heap_alloc_new w _
  have HAR1 := Lib.hid (har.below hb1)
  have HC := Lib.hid (checkC w1 g base cap c A bs true HAR1.out hbase hl hck)
  dsimp only [errV] at HC
  have HWK := Lib.hid (fun W (h : Ar W 92 g base cap A c bs) => walkC W g base cap c A bs (some l) h hbase hl hwk)
  have HW1 := Lib.hid hw1
  have HB1 := Lib.hid hb1
  have HN1 := Lib.hid n1
  have HMEM := Lib.hid hmem
  have HIN := Lib.hid hin
  have HFF := Lib.hid hF
  obtain ⟨n, hn⟩ : ∃ n, bs.length = n := ⟨_, rfl⟩
  rw [hn] at hl hll32
  rw [hn]
  have HNN := Lib.hid hn
  obtain ⟨m, hm⟩ : ∃ m, l.length = m := ⟨_, rfl⟩
  rw [hm] at hll32 ⊢
  have HMM := Lib.hid hm
  have HLL : Hid ((l.map toR).length = m) := (show _ = _ by rw [List.length_map]; exact hm)
  clear har hck hw1 hb1 n1 hwk hmem hin hF hn hm
  go_enter Tryz.func6, Tryz.ntmps6
  go_wp2_with (first | (rw [HW1.out]) | fail)
  refine HC.out.mono ?_
  rintro e w2 ⟨rfl, hb2⟩
  have har2 := HAR1.out.below hb2
  have hlen := len_any har2
  rw [HNN.out] at hlen
  have HLEN := Lib.hid hlen
  have HAR2 := Lib.hid har2
  have HN2 := Lib.hid ((hb2.block _ (heap_lt1 HN1.out)).trans HN1.out)
  have HB2 := Lib.hid (HB1.out.trans (hb2.mono HB1.out.size))
  obtain ⟨w3, hw3⟩ : ∃ w3, w2.alloc (.cells #[.int .i64 (n : Int), .slice none 0 0, .slice none 0 0] 31) = w3 := ⟨_, rfl⟩
  have hb3 : Below w2.heap.size w2 w3 := by rw [← hw3]; exact (Below.refl _ _).alloc (Nat.le_refl _) _
  have n3 : w3.heap[w2.heap.size]? = some (.cells #[.int .i64 (n : Int), .slice none 0 0, .slice none 0 0] 31 (0, 0)) := by rw [← hw3]; exact heap_alloc_new w2 _
  have hwk3 := HWK.out w3 (har2.below hb3)
  unfold BlksTold at hwk3
  dsimp only [errV, Option.isSome, Option.getD] at hwk3
  have HWK3 := Lib.hid hwk3
  have HW3 := Lib.hid hw3
  have HB3 := Lib.hid hb3
  have HN3 := Lib.hid n3
  clear hb2 har2 hlen hw3 hb3 n3 hwk3 HWK HC HAR1
  go_wp2_with fail
  refine HLEN.out.mono ?_
  rintro e wq ⟨rfl, rfl⟩
  go_wp2_with (first | (rw [HW3.out]) | fail)
  refine HWK3.out.mono ?_
  rintro e w4 ⟨A1, c1, rfl, own4, hb4⟩
  rw [HMM.out]
  have n4 := (hb4.block _ (heap_lt1 HN3.out)).trans HN3.out
  have hl4 := heap_lt1 n4
  obtain ⟨f0, f1, f2⟩ := im_thaw n4
  obtain ⟨z0, z1, z2⟩ := rk_cells n4
  obtain ⟨w5, hw5⟩ : ∃ w5, w4.setCell ⟨w2.heap.size, 1, none⟩ (.slice A1 m c1) = w5 := ⟨_, rfl⟩
  have hg5 : w4.grownBy w5 (some w2.heap.size) := by rw [← hw5]; exact grown_set w4 w2.heap.size 1 _
  have n5 : w5.heap[w2.heap.size]? = some (.cells #[.int .i64 (n : Int), .slice A1 m c1, .slice none 0 0] 31 (0, 0)) := by rw [← hw5]; exact heap_setCell_same w4 w2.heap.size 1 _ _ _ n4
  have hb5 : Below w2.heap.size w2 w5 := by rw [← hw5]; exact (HB3.out.trans (hb4.mono HB3.out.size)).setCell (p := ⟨w2.heap.size, 1, none⟩) (Nat.le_refl _) _
  have own5 : w5.ownsRow w2.heap.size 51 3 (.slice A1 (l.map toR).length c1) (l.map toR).length (flatR (l.map toR)) := by
    rw [HLL.out, ← flatK_R]
    rw [HMM.out] at own4
    exact own_lift (own_off own4 hg5 fun k hk hrk => by injection hrk with hrk; subst hrk; exact own_typ own4 hk n4 (by decide)) HB3.out.size
  have HIM5 : Hid (ImP w2.heap.size w2.heap.size (n : Int) A1 c1 (l.map toR) none 0 [] [] w5) := ⟨by rw [HLL.out]; exact n5, own5, World.ownsRow_nil _ _ _ _, fun i y h => by simp at h, Nat.le_refl _, HIN.out⟩
  have HB5 := Lib.hid hb5
  have hRW := own5
  obtain ⟨d0, d1, d2⟩ := rk_cells n5
  have hl5 := heap_lt1 n5
  have HW5 := Lib.hid hw5
  clear own4 hb4 n4 hw5 hg5 n5 hb5 own5 hRW
  go_wp2_with (first | (rw [HW5.out]) | fail)
  clear f0 f1 f2 z0 z1 z2 d0 d1 d2 hl4 hl5
  obtain ⟨j0, ji, jz0, jz1, jz2⟩ := info_parts dt_inf
  go_loopw [26] (fun t W => ∃ (j : Nat) (A2 : Option Addr) (c2 : Nat) (d : List (List UInt8)) (xs : List Value), t = .int .i64 (j : Int) ∧ j ≤ m ∧ ImP w2.heap.size w2.heap.size (n : Int) A1 c1 (l.map toR) A2 c2 d xs W ∧ d ++ ofD bs (l.drop j) = F ∧ d.length ≤ j ∧ Below w2.heap.size w2 W) (fun t _ => m - (intOf t).toNat)
  case atStart => exact ⟨0, none, 0, [], [], rfl, Nat.zero_le _, HIM5.out, HFF.out, Nat.le_refl _, HB5.out⟩
  case round =>
    obtain ⟨j, A2, c2, d, xs, rfl, hj, him, hdf, hdl, hb⟩ := hrel
    have ho := him.obj
    rw [HLL.out] at ho
    obtain ⟨d0, d1, d2⟩ := rk_cells ho
    have hlm := heap_lt1 ho
    by_cases hlt : j < m
    · obtain ⟨x, hx⟩ : ∃ x, l[j]? = some x := ⟨l[j]'(by rw [HMM.out]; exact hlt), List.getElem?_eq_getElem _⟩
      obtain ⟨m1, m2, m3⟩ := HMEM.out x (List.mem_of_getElem? hx)
      have m4 := (isSz_iff _).1 m3
      rw [HNN.out] at m2
      obtain ⟨b2, o, rfl, hbb, hcl⟩ := him.rkrd (by rw [HLL.out]; omega)
      obtain ⟨r0, r1, r2, _, _⟩ := hcl j (toR x) (by rw [List.getElem?_map, hx]; rfl)
      rw [drop_at hx] at hdf
      unfold ofD at hdf
      obtain ⟨xo, xz, xu⟩ := x
      dsimp only [toR] at r0 r1 r2 hdf m1 m2 m3 m4
      obtain ⟨w4', hw4⟩ : ∃ w4, wr.alloc (.cells #[.int .i64 (xo : Int), .int .i64 (xz : Int), .bool xu] 51) = w4 := ⟨_, rfl⟩
      have hb04 : Below wr.heap.size wr w4' := by rw [← hw4]; exact (Below.refl _ _).alloc (Nat.le_refl _) _
      have n4 : w4'.heap[wr.heap.size]? = some (.cells #[.int .i64 (xo : Int), .int .i64 (xz : Int), .bool xu] 51 (0, 0)) := by rw [← hw4]; exact heap_alloc_new wr _
      have HIM4 := Lib.hid (him.stay hb04)
      have HB4 := Lib.hid (hb.trans (hb04.mono hb.size))
      have HW4 := Lib.hid hw4
      have HN4 := Lib.hid n4
      obtain ⟨e0, e1, e2⟩ := rk_cells n4
      have hl4 := heap_lt1 n4
      have HDF := Lib.hid hdf
      clear hx hcl hb04 hw4 n4 hdf him hb ho
      cases xu with
      | false =>
        have HF2 : Hid (d ++ ofD bs (l.drop (j + 1)) = F) := (show _ = _ by simpa using HDF.out)
        go_wp2_with (first | (rw [HW4.out]) | fail)
        go_roundw
        case rel => exact ⟨j + 1, A2, c2, d, xs, by go_num, by omega, HIM4.out, HF2.out, by omega, HB4.out⟩
        case measure => simp only [intOf]; omega
      | true =>
        obtain ⟨q, hq⟩ : ∃ q, xz = q + 16 := ⟨xz - 16, by omega⟩
        have har4 := HAR2.out.below HB4.out
        obtain ⟨y, hy⟩ : ∃ y, (bs.drop (xo + 8)).take q = y := ⟨_, rfl⟩
        have hyl : y.length = q := by rw [← hy, List.length_take, List.length_drop, HNN.out]; omega
        have hyb : y.length ≤ 100000 := by omega
        have HF2 : Hid ((d ++ [y]) ++ ofD bs (l.drop (j + 1)) = F) := (show _ = _ by
          have := HDF.out
          rw [if_pos rfl, show xz - 16 = q from by omega, hy] at this
          rw [List.append_assoc]
          exact this)
        obtain ⟨wd, hwd⟩ : ∃ wd, w4'.drew = wd := ⟨_, rfl⟩
        have hbd : Below w4'.heap.size w4' wd := by rw [← hwd]; exact (Below.refl _ _).drew
        have hard := har4.below hbd
        have HBASE := Lib.hid (base_any hard)
        have HHELD := Lib.hid (imheld_any wd (xo : Int) (xz : Int) true m3)
        rw [show (xz : Int) - 16 = (q : Int) from by omega] at HHELD
        obtain ⟨ad, had⟩ : ∃ ad, base + xo + 8 = ad := ⟨_, rfl⟩
        have HLOAD := Lib.hid (fun W (h : Ar W 92 g base cap A c bs) => load_ok h (by rw [HNN.out]; omega) ad q (xo + 8) (by omega) (by omega) (by omega) (by rw [HNN.out]; omega))
        rw [hy] at HLOAD
        have HARD := Lib.hid hard
        have hbd4 := HB4.out.trans (hbd.mono HB4.out.size)
        have HBD := Lib.hid hbd4
        have HIMD := Lib.hid (HIM4.out.stay hbd)
        have hnd := (hbd.block _ (heap_lt1 HN4.out)).trans HN4.out
        obtain ⟨g0, g1, g2⟩ := rk_cells hnd
        have lgd := heap_lt1 hnd
        have HWD := Lib.hid hwd
        have HYL := Lib.hid hyl
        obtain ⟨bx, hbx⟩ : ∃ bx, base + xo = bx := ⟨_, rfl⟩
        have i3 : (base : Int) + (xo : Int) = (bx : Int) := by omega
        have i1 : (bx : Int) + 8 = (ad : Int) := by omega
        have i2 : ad < 18446744073709551616 := by omega
        have hqb : q ≤ 20000 := by omega
        have i4 : bx < 18446744073709551616 := by omega
        clear hbd har4 hard hbd4 hnd hwd hy hyl had hq hbx
        go_wp2_with (first | (rw [HW4.out]) | fail)
        refine wp_region_tail wd.heap.size [([0, 1, 3, 4, 5, 8], 2), ([6, 7], 9), ([10], 11)] [12, 13, 14, 15, 16] [] (by kernel_rfl) (by kernel_rfl) (by kernel_rfl) (fun _ _ _ _ _ h => h) ?_
        rw [HWD.out]
        have q0 : ∀ z : LaterB wd.heap.size wd, z.val.cell? ⟨wr.heap.size, 0, none⟩ = some (.int .i64 (xo : Int)) := fun z => (z.ext.cell (p := ⟨wr.heap.size, 0, none⟩) lgd).trans g0
        have q1 : ∀ z : LaterB wd.heap.size wd, z.val.cell? ⟨wr.heap.size, 1, none⟩ = some (.int .i64 (xz : Int)) := fun z => (z.ext.cell (p := ⟨wr.heap.size, 1, none⟩) lgd).trans g1
        have q2 : ∀ z : LaterB wd.heap.size wd, z.val.cell? ⟨wr.heap.size, 2, none⟩ = some (.bool true) := fun z => (z.ext.cell (p := ⟨wr.heap.size, 2, none⟩) lgd).trans g2
        refine tail_cons (l := ?segA) ?hsegA ?_
        case hsegA => simp only [pick, List.getElem?_toArray, List.getElem?_cons_succ, List.getElem?_cons_zero]; rfl
        repeat (go_big_quiet_step (fail))
        refine wpQuiet_nil ?_
        clear q0 q1 q2
        refine tail_call (vs := #[.pointer (some ⟨g, 0, none⟩)]) Tryz.call26 rfl rfl rfl (R := fun r w' => r = .int .u64 (base : Int) ∧ w' = wd) (HBASE.out.mono ?_) wd.heap.size (Nat.le_refl _) ?_
        · rintro e w' ⟨rfl, rfl⟩
          exact ⟨_, rfl, Below.refl _ _, rfl, rfl⟩
        rintro r w' _ ⟨rfl, rfl⟩
        simp only [Act.put, List.setIfInBounds_toArray, List.set_cons_zero, List.set_cons_succ]
        refine tail_cons (l := ?segB) ?hsegB ?_
        case hsegB => simp only [pick, List.getElem?_toArray, List.getElem?_cons_succ, List.getElem?_cons_zero]; rfl
        repeat (go_big_quiet_step (fail))
        refine wpQuiet_nil ?_
        refine tail_call2 (vs := #[.agg #[.int .i64 (xo : Int), .int .i64 (xz : Int), .bool true]]) Tryz.call27 rfl rfl rfl (R := fun r w'' => r = .int .i64 (q : Int) ∧ Below w'.heap.size w' w'') (HHELD.out.mono ?_) ?_
        · rintro e w'' ⟨rfl, hb⟩
          exact ⟨_, rfl, hb, rfl, hb⟩
        rintro r w5 _ ⟨rfl, hb5⟩
        refine ⟨w5.heap.size, hb5.size, ?_⟩
        simp only [Act.put, List.setIfInBounds_toArray, List.set_cons_zero, List.set_cons_succ]
        have HIM5 := Lib.hid (HIMD.out.stay hb5)
        have HB5 := Lib.hid (HBD.out.trans (hb5.mono HBD.out.size))
        have hlo := HLOAD.out w5 (HARD.out.below hb5)
        unfold Told at hlo
        rw [HYL.out] at hlo
        clear hb5
        refine tail_cons (l := ?segC) ?hsegC ?_
        case hsegC => simp only [pick, List.getElem?_toArray, List.getElem?_cons_succ, List.getElem?_cons_zero]; rfl
        repeat (go_big_quiet_step (fail))
        refine wpQuiet_nil ?_
        refine tail_call2 (vs := #[.pointer (some ⟨g, 0, none⟩), .int .u64 (ad : Int), .int .u64 (q : Int)]) Tryz.call25 rfl rfl rfl (R := fun r w'' => ∃ A' c', r = .tuple #[.slice A' q c', .nilIface] ∧ w''.ownsRow w5.heap.size 5 1 (.slice A' q c') q (y.map bv) ∧ Below w5.heap.size w5 w'') (hlo.mono ?_) ?_
        · rintro e w'' ⟨A', c', rfl, ho, hb⟩
          exact ⟨_, rfl, hb, A', c', rfl, ho, hb⟩
        rintro r w6 _ ⟨A6, k6, rfl, ho6, hb6⟩
        refine ⟨w6.heap.size, hb6.size, ?_⟩
        simp only [Act.put, List.setIfInBounds_toArray, List.set_cons_zero, List.set_cons_succ]
        have him6 := HIM5.out.stay hb6
        have hB6 := HB5.out.trans (hb6.mono HB5.out.size)
        obtain ⟨w7, hw7⟩ : ∃ w7, w6.alloc (.cells #[.slice A6 q k6] 23) = w7 := ⟨_, rfl⟩
        have hb7 : Below w6.heap.size w6 w7 := by rw [← hw7]; exact (Below.refl _ _).alloc (Nat.le_refl _) _
        have n7 : w7.heap[w6.heap.size]? = some (.cells #[.slice A6 q k6] 23 (0, 0)) := by rw [← hw7]; exact heap_alloc_new w6 _
        have HIM7 := Lib.hid (him6.stay hb7)
        have HB7 := Lib.hid (hB6.trans (hb7.mono hB6.size))
        have ho7 := own_lift (own_stay ho6 hb7 (own_ltB ho6)) (Nat.zero_le _)
        rw [← HYL.out] at ho7
        have Ho7 := Lib.hid ho7
        have hB7s : w2.heap.size ≤ w7.heap.size := HB7.out.size
        have HRUN := Lib.hid (fun V : World => run_one_d V A6 q k6)
        have HW7 := Lib.hid hw7
        have HNEW : Hid (∀ j u, [Value.slice A6 q k6][j]? = some u → w7.cell? ((⟨w6.heap.size, 0, none⟩ : Addr).add j) = some u) := fun j u hu => by
          have e : (⟨w6.heap.size, 0, none⟩ : Addr).add j = ⟨w6.heap.size, j, none⟩ := by unfold Addr.add; split <;> simp_all
          rw [e, cell_of_row w7 _ j _ _ (0, 0) n7]
          simpa using hu
        have HONE : Hid (∀ u ∈ [Value.slice A6 q k6], u.oneCell' = true) := fun u hu => by
          simp at hu
          subst hu; rfl
        have hdb : d.length ≤ 2000 := by omega
        have ho6' := him6.obj
        rw [HLL.out] at ho6'
        obtain ⟨v0, v1, v2⟩ := rk_cells ho6'
        have hl6 := heap_lt1 ho6'
        clear hlo ho6 hb6 him6 hB6 hw7 hb7 n7 ho7 ho6' d0 d1 d2 hlm e0 e1 e2 hl4 g0 g1 g2 lgd
        refine tail_last (l := ?lastA) (t := []) ?hlastA rfl ?_
        case hlastA => simp only [pick, List.getElem?_toArray, List.getElem?_cons_succ, List.getElem?_cons_zero]; rfl
        repeat (go_big_quiet_step (fail))
        refine wpQuiet_nil ?_
        go_wp2_with (first
          | (rw [HRUN.out])
          | (rw [HW7.out])
          | (at_builtin; go_must (refine wpList_append_own _ rfl _ _ 29 rfl w2.heap.size 23 j0 _ 1 24 Tryz.underlying29 ji jz0 jz1 jz2 rfl (by decide) _ d.length xs rfl HIM7.out.rd ⟨w6.heap.size, 0, none⟩ 1 1 [.slice A6 q k6] rfl rfl HNEW.out HONE.out (by unfold maxLen; omega) (by omega) hB7s ?_); intro x8 w8 own8 gr8 at8;
             obtain ⟨A2', c2', rfl, hg8, him8, hb8⟩ := HIM7.out.pushD (y := y) hyb Ho7.out (by rw [HYL.out]; exact own8) gr8 HB7.out (Nat.le_refl _) hB7s;
             have e8 := hg8.trans HIM7.out.obj; rw [HLL.out] at e8; obtain ⟨c80, c81, c82⟩ := rk_cells e8; obtain ⟨t80, t81, t82⟩ := im_thaw e8; have hl8 := heap_lt1 e8; have HIM8 := Lib.hid him8; have HB8x := Lib.hid hb8; clear own8 gr8 at8 hg8 him8 hb8 e8)
          | fail)
        go_roundw
        case rel => exact ⟨j + 1, A2', c2', d ++ [y], _, by go_num, by omega, HIM8.out, HF2.out, by rw [List.length_append, List.length_singleton]; omega, HB8x.out⟩
        case measure => simp only [intOf]; omega
    · have hd0 : l.drop j = [] := List.drop_eq_nil_of_le (by rw [HMM.out]; omega)
      rw [hd0] at hdf
      have hdF : d = F := by rw [← hdf]; unfold ofD; rw [List.append_nil]
      subst hdF
      have hN9 := (hb.block _ (heap_lt1 HN2.out)).trans HN2.out
      have hB9 := HB2.out.trans (hb.mono HB2.out.size)
      have hl9 := heap_lt1 hN9
      obtain ⟨t0, t1, t2⟩ := im_thaw hN9
      obtain ⟨z0, z1, z2⟩ := rk_cells hN9
      obtain ⟨dl, hdl2⟩ : ∃ dl, d.length = dl := ⟨_, rfl⟩
      rw [hdl2] at ho
      clear d0 d1 d2
      obtain ⟨d0, d1, d2⟩ := rk_cells ho
      have HM := Lib.hid (im_set hN9 (.int .i64 (n : Int)) (.slice A1 m c1) (.slice A2 dl c2))
      have HF := Lib.hid (((hB9.setCell (p := ⟨w.heap.size, 0, none⟩) (Nat.le_refl _) (.int .i64 (n : Int))).setCell (p := ⟨w.heap.size, 1, none⟩) (Nat.le_refl _) (.slice A1 m c1)).setCell (p := ⟨w.heap.size, 2, none⟩) (Nat.le_refl _) (.slice A2 dl c2))
      have HLAID := Lib.hid (him.laid (heap_lt1 HN2.out) hN9 (.int .i64 (n : Int)) (.slice A1 m c1) (.slice A2 dl c2))
      have HDL := Lib.hid hdl2
      clear hN9 hB9 him hb ho hdl2 hdf hd0
      go_wp2
      (try simp only [Exit.inBlock, Exit.then])
      refine im_ret (g := w.heap.size) (x := .nilIface) Tryz.results6 ?_ ?_ ?_ HM.out ?_
      · rfl
      · rfl
      · rfl
      · exact ⟨A1, A2, c1, c2, by rw [HDL.out], HLAID.out.1, HLAID.out.2, HF.out⟩
end Go.Proofs.YtbemaoncakcnjaaGreat

/- The document's Of: the image of bytes that are right (genof2.py). -/
namespace Go.Proofs.YtbemaoncakcnjaaGreat
open Go.RowKit

set_option maxRecDepth 100000 in
set_option maxHeartbeats 2000000 in
theorem rof_any (w : World) (A : Option Addr) (c B : Nat) (bs : List UInt8) (l : List Bk) (hr : Rd w B A bs.length bs) (hB : B ≤ w.heap.size) (hlc : bs.length ≤ c) (hc : c ≤ 9223372036854775807) (hl : bs.length ≤ 16384) (hwk : walkB bs = some l) :
    Calls Tryz.prog 10 #[.slice A bs.length c] w fun e w' => ∃ A1 A2 c1 c2, e = .returned (.agg #[.int .i64 (bs.length : Int), .slice A1 l.length c1, .slice A2 (ofD bs l).length c2]) ∧ RkRd w' w'.heap.size A1 (l.map toR) ∧ DtRd w' w'.heap.size A2 (ofD bs l) ∧ Below w.heap.size w w' := by
  obtain ⟨hin, hll32, hmem⟩ := tiles_in hwk hl
  have h184 := (walkB_tiles hwk).1
  obtain ⟨F, hF⟩ : ∃ F, ofD bs l = F := ⟨_, rfl⟩
  rw [hF]
  obtain ⟨ga, off, rfl, _⟩ := hr.2 (by omega)
  obtain ⟨w1, hw1⟩ : ∃ w1, w.alloc (.cells #[.int .i64 0, .slice none 0 0, .slice none 0 0] 38) = w1 := ⟨_, rfl⟩
  have hb1 : Below w.heap.size w w1 := by rw [← hw1]; exact (Below.refl _ _).alloc (Nat.le_refl _) _
  have n1 : w1.heap[w.heap.size]? = some (.cells #[.int .i64 0, .slice none 0 0, .slice none 0 0] 38 (0, 0)) := by rw [← hw1]; exact heap_alloc_new w _
  have hwa := rwalkB_any w1 (some ⟨ga, off, none⟩) c w.heap.size bs ((hr.more hB).below hb1) hb1.size hlc (by omega) (some l) hwk
  unfold BksTold at hwa
  dsimp only [Option.isSome, Option.getD] at hwa
  have HRR := Lib.hid (fun V (hV : Below w.heap.size w V) p m (hp : p + m ≤ bs.length) => ((hr.more hB).below hV).sub p m hp)
  have HGB := Lib.hid (show ga < w.heap.size by obtain ⟨g', o', e', hg', _⟩ := hr.2 (by omega); injection e' with e'; injection e' with e1 _ _; omega)
  obtain ⟨n, hn⟩ : ∃ n, bs.length = n := ⟨_, rfl⟩
  rw [hn] at hl hll32 hlc h184 hwa
  rw [hn]
  obtain ⟨m, hm⟩ : ∃ m, l.length = m := ⟨_, rfl⟩
  rw [hm] at hll32 hwa ⊢
  have HWA := Lib.hid hwa
  have HW1 := Lib.hid hw1
  have HB1 := Lib.hid hb1
  have HN1 := Lib.hid n1
  have HMEM := Lib.hid hmem
  have HIN := Lib.hid hin
  have HFF := Lib.hid hF
  have HNN := Lib.hid hn
  have HMM := Lib.hid hm
  have HLL : Hid ((l.map toR).length = m) := (show _ = _ by rw [List.length_map]; exact hm)
  clear hr hwa hw1 hb1 n1 hwk hmem hin hF hn hm hB
  go_enter Tryz.func10, Tryz.ntmps10
  go_wp2_with (first | (rw [HW1.out]) | fail)
  refine HWA.out.mono ?_
  rintro e w2 ⟨A1, c1, rfl, own2, hb2⟩
  have HN2 := Lib.hid ((hb2.block _ (heap_lt1 HN1.out)).trans HN1.out)
  have HB2 := Lib.hid (HB1.out.trans (hb2.mono HB1.out.size))
  obtain ⟨w3, hw3⟩ : ∃ w3, w2.alloc (.cells #[.int .i64 (n : Int), .slice A1 m c1, .slice none 0 0] 38) = w3 := ⟨_, rfl⟩
  have hb3 : Below w2.heap.size w2 w3 := by rw [← hw3]; exact (Below.refl _ _).alloc (Nat.le_refl _) _
  have n3 : w3.heap[w2.heap.size]? = some (.cells #[.int .i64 (n : Int), .slice A1 m c1, .slice none 0 0] 38 (0, 0)) := by rw [← hw3]; exact heap_alloc_new w2 _
  have own3 : w3.ownsRow w1.heap.size 51 3 (.slice A1 (l.map toR).length c1) (l.map toR).length (flatR (l.map toR)) := by
    rw [HLL.out, ← flatK_R]
    exact own_stay own2 hb3 (own_ltB own2)
  have HIM3 : Hid (ImB w1.heap.size w2.heap.size (n : Int) A1 c1 (l.map toR) none 0 [] [] w3) := ⟨by rw [HLL.out]; exact n3, own3, World.ownsRow_nil _ _ _ _, fun i y h => by simp at h, hb2.size, HIN.out⟩
  have HB3 := Lib.hid (hb2.trans (hb3.mono hb2.size))
  have HW3 := Lib.hid hw3
  have hs12 := hb2.size
  clear own2 hb2 hw3 hb3 n3 own3
  go_wp2_with (first | (rw [HW3.out]) | fail)
  obtain ⟨j0, ji, jz0, jz1, jz2⟩ := info_parts dt_inf
  go_loopw [6] (fun t W => ∃ (j : Nat) (A2 : Option Addr) (c2 : Nat) (d : List (List UInt8)) (xs : List Value), t = .int .i64 (j : Int) ∧ j ≤ m ∧ ImB w1.heap.size w2.heap.size (n : Int) A1 c1 (l.map toR) A2 c2 d xs W ∧ d ++ ofD bs (l.drop j) = F ∧ d.length ≤ j ∧ Below w1.heap.size w1 W) (fun t _ => m - (intOf t).toNat)
  case atStart => exact ⟨0, none, 0, [], [], rfl, Nat.zero_le _, HIM3.out, HFF.out, Nat.le_refl _, HB3.out⟩
  case round =>
    obtain ⟨j, A2, c2, d, xs, rfl, hj, him, hdf, hdl, hb⟩ := hrel
    have ho := him.obj
    rw [HLL.out] at ho
    obtain ⟨d0, d1, d2⟩ := rk_cells ho
    have hlm := heap_lt1 ho
    by_cases hlt : j < m
    · obtain ⟨x, hx⟩ : ∃ x, l[j]? = some x := ⟨l[j]'(by rw [HMM.out]; exact hlt), List.getElem?_eq_getElem _⟩
      obtain ⟨m1, m2, m3⟩ := HMEM.out x (List.mem_of_getElem? hx)
      have m4 := (isSz_iff _).1 m3
      rw [HNN.out] at m2
      obtain ⟨b2, o, rfl, hbb, hcl⟩ := him.rkrd (by rw [HLL.out]; omega)
      obtain ⟨r0, r1, r2, _, _⟩ := hcl j (toR x) (by rw [List.getElem?_map, hx]; rfl)
      rw [drop_at hx] at hdf
      unfold ofD at hdf
      obtain ⟨xo, xz, xu⟩ := x
      dsimp only [toR] at r0 r1 r2 hdf m1 m2 m3 m4
      have HDF := Lib.hid hdf
      have HIM := Lib.hid him
      have HB := Lib.hid hb
      clear hx hcl hdf him hb ho
      cases xu with
      | false =>
        have HF2 : Hid (d ++ ofD bs (l.drop (j + 1)) = F) := (show _ = _ by simpa using HDF.out)
        go_wp2_with fail
        go_roundw
        case rel => exact ⟨j + 1, A2, c2, d, xs, by go_num, by omega, HIM.out, HF2.out, by omega, HB.out⟩
        case measure => simp only [intOf]; omega
      | true =>
        obtain ⟨q, hq⟩ : ∃ q, xz = q + 16 := ⟨xz - 16, by omega⟩
        obtain ⟨y, hy⟩ : ∃ y, (bs.drop (xo + 8)).take q = y := ⟨_, rfl⟩
        have hyl : y.length = q := by rw [← hy, List.length_take, List.length_drop, HNN.out]; omega
        have hyb : y.length ≤ 100000 := by omega
        have HF2 : Hid ((d ++ [y]) ++ ofD bs (l.drop (j + 1)) = F) := (show _ = _ by
          have := HDF.out
          rw [if_pos rfl, show xz - 16 = q from by omega, hy] at this
          rw [List.append_assoc]
          exact this)
        obtain ⟨wD, hwD⟩ : ∃ wD, wr.drew = wD := ⟨_, rfl⟩
        have hbD : Below wr.heap.size wr wD := by rw [← hwD]; exact (Below.refl _ _).drew
        have himD := HIM.out.stay hbD
        have hBD := HB.out.trans (hbD.mono HB.out.size)
        have hRD := HRR.out wD (HB1.out.trans (hBD.mono HB1.out.size)) (xo + 8) q (by rw [HNN.out]; omega)
        rw [hy] at hRD
        have hoD := himD.obj
        rw [HLL.out] at hoD
        obtain ⟨f0, f1, f2⟩ := rk_cells hoD
        have hlD := heap_lt1 hoD
        have s0 := (hbD.cell (p := ⟨b2, o + j * 3, none⟩) hbb).trans r0
        have s1 := (hbD.cell (p := ⟨b2, o + j * 3 + 1, none⟩) hbb).trans r1
        have hbbD : b2 < wD.heap.size := Nat.lt_of_lt_of_le hbb hbD.size
        have HWDD := Lib.hid hwD
        obtain ⟨wE, hwE⟩ : ∃ wE, wD.alloc (.cells #[] 5) = wE := ⟨_, rfl⟩
        have hro := run_none21 wD
        rw [hwE] at hro
        have hbE : Below wD.heap.size wD wE := by rw [← hwE]; exact (Below.refl _ _).alloc (Nat.le_refl _) _
        have owE : wE.ownsRow wD.heap.size 5 1 (.slice (some ⟨wD.heap.size, 0, none⟩) 0 0) 0 (([] : List UInt8).map bv) := by rw [← hwE]; exact World.ownsRow_lit wD _ 0 (Nat.le_refl _) (by unfold maxLen; omega) rfl
        have hRE := hRD.below (hbE.mono (by have := (HB1.out.trans (hBD.mono HB1.out.size)).size; omega))
        have HIMD := Lib.hid himD
        have HBDD := Lib.hid hBD
        have HOWE := Lib.hid owE
        have HRE := Lib.hid hRE
        have HYL := Lib.hid hyl
        obtain ⟨lo, hlo⟩ : ∃ lo, xo + 8 = lo := ⟨_, rfl⟩
        rw [hlo] at HRE
        obtain ⟨en, hen⟩ : ∃ en, xo + xz = en := ⟨_, rfl⟩
        have i1 : (xo : Int) + 8 = (lo : Int) := by omega
        have i2 : (xo : Int) + (xz : Int) = (en : Int) := by omega
        have i3 : (en : Int) - 8 = (lo : Int) + (q : Int) := by omega
        have t1 : (lo : Int) + (q : Int) ≤ (c : Int) := by omega
        have t2 : (lo : Int) < (c : Int) := by omega
        have t3 : 0 ≤ (lo : Int) + (q : Int) := by omega
        have t4 : ((lo : Int) + (q : Int)).toNat = lo + q := by omega
        have t5 : (lo : Int) ≤ (lo : Int) + (q : Int) := by omega
        have t6 : lo ≤ 20000 := by omega
        have t7 : en ≤ 20000 := by omega
        have hqb : q ≤ 20000 := by omega
        have hji : (j : Int) < (m : Int) := by omega
        clear hwD hbD himD hBD hRD hoD hwE owE hRE hyl hy hq hlo hen
        go_wp2_with fail
        refine wp_region_tail wD.heap.size [([0, 1, 3, 4, 5, 6, 7, 8, 9, 10, 11, 12, 13, 14, 15, 16, 17, 18, 19, 20, 21, 22], 2), ([], 23), ([], 24)] [] [25, 26, 27] (by kernel_rfl) (by kernel_rfl) (by kernel_rfl) (fun _ _ _ _ _ h => h) ?_
        rw [HWDD.out]
        have q2 : ∀ z : LaterB wD.heap.size wD, z.val.cell? ⟨w2.heap.size, 2, none⟩ = some (.slice A2 d.length c2) := fun z => (z.ext.cell (p := ⟨w2.heap.size, 2, none⟩) hlD).trans f2
        have q3 : ∀ z : LaterB wD.heap.size wD, z.val.cell? ⟨b2, o + j * 3, none⟩ = some (.int .i64 (xo : Int)) := fun z => (z.ext.cell (p := ⟨b2, o + j * 3, none⟩) hbbD).trans s0
        have q4 : ∀ z : LaterB wD.heap.size wD, z.val.cell? ⟨b2, o + j * 3 + 1, none⟩ = some (.int .i64 (xz : Int)) := fun z => (z.ext.cell (p := ⟨b2, o + j * 3 + 1, none⟩) hbbD).trans s1
        refine tail_cons (l := ?segA) ?hsegA ?_
        case hsegA => simp only [pick, List.getElem?_toArray, List.getElem?_cons_succ, List.getElem?_cons_zero]; rfl
        repeat (go_big_quiet_step (fail))
        refine wpQuiet_nil ?_
        clear q2 q3 q4
        refine tail_val2 (some 29) (w1 := wE) (v := .slice (some ⟨wD.heap.size, 0, none⟩) 0 0) rfl rfl rfl ?rv3 hbE ⟨wD.heap.size, Nat.le_refl _, ?_⟩
        case rv3 => exact bslice_run rfl rfl hro
        simp only [Act.put, List.setIfInBounds_toArray, List.set_cons_zero, List.set_cons_succ]
        refine tail_cons (l := []) rfl (wpQuiet_nil ?_)
        refine tail_bytes21 (some 50) (.tmp 29) (.tmp 49) 23 5 rfl rfl rfl rfl Tryz.underlying23 u8_info (.slice (some ⟨wD.heap.size, 0, none⟩) 0 0) 0 [] rfl HOWE.out hbE.size w.heap.size ⟨ga, off + lo, none⟩ q (c - lo) y rfl HRE.out (by omega) ?_
        intro x8 w6 own8 hb8
        obtain ⟨A6, k6, rfl, _⟩ := own_slc own8
        have hzero : (0 : Nat) + q = q := Nat.zero_add _
        rw [hzero] at own8 ⊢
        have ho6 : w6.ownsRow wD.heap.size 5 1 (.slice A6 q k6) q (y.map bv) := by simpa using own8
        have hb6 := hbE.trans hb8
        have him6 := HIMD.out.stay hb6
        have hB6 := HBDD.out.trans (hb6.mono HBDD.out.size)
        refine ⟨w6.heap.size, hb6.size, ?_⟩
        simp only [Act.put, List.setIfInBounds_toArray, List.set_cons_zero, List.set_cons_succ]
        refine tail_cons (l := []) rfl (wpQuiet_nil ?_)
        obtain ⟨w7, hw7⟩ : ∃ w7, w6.alloc (.cells #[.slice A6 q k6] 23) = w7 := ⟨_, rfl⟩
        have hro7 := run_one_d w6 A6 q k6
        rw [hw7] at hro7
        have hb7 : Below w6.heap.size w6 w7 := by rw [← hw7]; exact (Below.refl _ _).alloc (Nat.le_refl _) _
        have n7 : w7.heap[w6.heap.size]? = some (.cells #[.slice A6 q k6] 23 (0, 0)) := by rw [← hw7]; exact heap_alloc_new w6 _
        have HIM7 := Lib.hid (him6.stay hb7)
        have HB7 := Lib.hid (hB6.trans (hb7.mono hB6.size))
        have ho7 := own_lift (own_stay ho6 hb7 (own_ltB ho6)) (Nat.zero_le _)
        rw [← HYL.out] at ho7
        have Ho7 := Lib.hid ho7
        have hB7s : w1.heap.size ≤ w7.heap.size := HB7.out.size
        have hnew : ∀ j u, [Value.slice A6 q k6][j]? = some u → w7.cell? ((⟨w6.heap.size, 0, none⟩ : Addr).add j) = some u := fun j u hu => by
          have e : (⟨w6.heap.size, 0, none⟩ : Addr).add j = ⟨w6.heap.size, j, none⟩ := by unfold Addr.add; split <;> simp_all
          rw [e, cell_of_row w7 _ j _ _ (0, 0) n7]
          simpa using hu
        have hone : ∀ u ∈ [Value.slice A6 q k6], u.oneCell' = true := fun u hu => by
          simp at hu
          subst hu; rfl
        have hdb : d.length ≤ 2000 := by omega
        refine tail_val2 (some 51) (w1 := w7) (v := .slice (some ⟨w6.heap.size, 0, none⟩) 1 1) rfl rfl rfl ?rv4 hb7 ⟨w7.heap.size, hb7.size, ?_⟩
        case rv4 => exact bslice_run rfl rfl hro7
        simp only [Act.put, List.setIfInBounds_toArray, List.set_cons_zero, List.set_cons_succ]
        refine tail_last (l := ?lastA) (t := ?tailA) ?hlastA ?htailA ?_
        case hlastA => rfl
        case htailA => simp only [pick, List.getElem?_toArray, List.getElem?_cons_succ, List.getElem?_cons_zero]; rfl
        refine wpQuiet_nil ?_
        refine wpList_append_own _ rfl (.tmp 28) (.tmp 51) 29 rfl w1.heap.size 23 j0 _ 1 24 Tryz.underlying29 ji jz0 jz1 jz2 rfl (by decide) (.slice A2 d.length c2) d.length xs rfl HIM7.out.rd ⟨w6.heap.size, 0, none⟩ 1 1 [.slice A6 q k6] rfl rfl hnew hone (by unfold maxLen; omega) (by omega) hB7s ?_
        intro x9 wG own9 gr9 _
        obtain ⟨A2', c2', rfl, hg8, him8, hb8'⟩ := HIM7.out.pushD (y := y) hyb Ho7.out (by rw [HYL.out]; exact own9) gr9 HB7.out (Nat.le_refl _) hB7s
        have e8 := hg8.trans HIM7.out.obj
        rw [HLL.out] at e8
        obtain ⟨c80, c81, c82⟩ := rk_cells e8
        obtain ⟨t80, t81, t82⟩ := im_thaw e8
        have hl8 := heap_lt1 e8
        have HIM8 := Lib.hid him8
        have HB8x := Lib.hid hb8'
        clear own8 hb8 ho6 hb6 him6 hB6 hw7 hro7 hb7 n7 ho7 hnew hone own9 gr9 hg8 him8 hb8' e8 hro hbE f0 f1 f2 hlD d0 d1 d2 hlm s0 s1 r0 r1 r2 hbb hbbD hzero
        go_wp2
        go_roundw
        case rel => exact ⟨j + 1, A2', c2', d ++ [y], _, by go_num, by omega, HIM8.out, HF2.out, by rw [List.length_append, List.length_singleton]; omega, HB8x.out⟩
        case measure => simp only [intOf]; omega
    · have hd0 : l.drop j = [] := List.drop_eq_nil_of_le (by rw [HMM.out]; omega)
      rw [hd0] at hdf
      have hdF : d = F := by rw [← hdf]; unfold ofD; rw [List.append_nil]
      subst hdF
      have hN9 := (hb.block _ (heap_lt1 HN1.out)).trans HN1.out
      have hB9 := HB1.out.trans (hb.mono HB1.out.size)
      have hl9 := heap_lt1 hN9
      obtain ⟨t0, t1, t2⟩ := im_thaw hN9
      obtain ⟨z0, z1, z2⟩ := rk_cells hN9
      obtain ⟨dl, hdl2⟩ : ∃ dl, d.length = dl := ⟨_, rfl⟩
      rw [hdl2] at ho
      clear d0 d1 d2
      obtain ⟨d0, d1, d2⟩ := rk_cells ho
      have HM := Lib.hid (im_set hN9 (.int .i64 (n : Int)) (.slice A1 m c1) (.slice A2 dl c2))
      have HF := Lib.hid (((hB9.setCell (p := ⟨w.heap.size, 0, none⟩) (Nat.le_refl _) (.int .i64 (n : Int))).setCell (p := ⟨w.heap.size, 1, none⟩) (Nat.le_refl _) (.slice A1 m c1)).setCell (p := ⟨w.heap.size, 2, none⟩) (Nat.le_refl _) (.slice A2 dl c2))
      have HLAID := Lib.hid (him.laid (heap_lt1 HN1.out) hN9 (.int .i64 (n : Int)) (.slice A1 m c1) (.slice A2 dl c2))
      have HDL := Lib.hid hdl2
      clear hN9 hB9 him hb ho hdl2 hdf hd0
      go_wp2
      (try simp only [Exit.inBlock, Exit.then])
      refine im_ret1 (g := w.heap.size) Tryz.results10 ?_ ?_ HM.out ?_
      · rfl
      · rfl
      · exact ⟨A1, A2, c1, c2, by rw [HDL.out], HLAID.out.1, HLAID.out.2, HF.out⟩
end Go.Proofs.YtbemaoncakcnjaaGreat
