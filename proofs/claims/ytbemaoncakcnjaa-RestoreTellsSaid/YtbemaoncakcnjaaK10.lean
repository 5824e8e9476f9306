/- Texts of mine, joined: Hea1, Hea7, Hea8. -/
import Derived.Test.YtbemaoncakcnjaaK9

/- The program's heap (layer 14): a block that tells an arena, whose bytes are a heap; usable, find. -/
namespace Go.Proofs.Ytbemaoncakcnjaa
open Go.RowKit

/-- At block q lies a heap: it tells the arena at g, whose bytes are H. -/
structure PH (w : World) (q g base cap : Nat) (A : Option Addr) (c : Nat) (bs : List UInt8) (H : Hp) : Prop where
  obj : w.heap[q]? = some (.cells #[.pointer (some ⟨g, 0, none⟩)] 68 (0, 0))
  ar : Ar w 74 g base cap A c bs
  rd : RtD bs H
  cp : H.cap = cap
  c16 : cap ≤ 16384
  b62 : base ≤ 4611686018427387904
section
variable {w w' : World} {q g base cap c : Nat} {A : Option Addr} {bs out : List UInt8} {H H' : Hp}
theorem PH.lt (h : PH w q g base cap A c bs H) : q < w.heap.size := heap_lt h.obj
theorem PH.c0 (h : PH w q g base cap A c bs H) : w.cell? ⟨q, 0, none⟩ = some (.pointer (some ⟨g, 0, none⟩)) := by rw [cell_of_row w q 0 _ _ (0, 0) h.obj]; rfl
theorem PH.below (h : PH w q g base cap A c bs H) (hb : Below w.heap.size w w') : PH w' q g base cap A c bs H :=
  ⟨(hb.block q h.lt).trans h.obj, h.ar.below hb, h.rd, h.cp, h.c16, h.b62⟩
theorem PH.len (h : PH w q g base cap A c bs H) : bs.length ≤ 16384 := (h.rd.rt.bound (by rw [h.cp]; exact h.c16)).1
set_option maxRecDepth 100000 in
set_option maxHeartbeats 400000 in
theorem husable_any (w : World) (o : Int) (s : Nat) (u : Bool) (h1 : 16 ≤ s) (h2 : s ≤ 16384) :
    Calls Try.prog 46 #[.agg #[.int .i64 o, .int .i64 (s : Int), .bool u]] w fun e w' => e = .returned (.int .u64 ((s - 16 : Nat) : Int)) ∧ Below w.heap.size w w' := by
  have e : ((s - 16 : Nat) : Int) = (s : Int) - 16 := by omega
  rw [e]
  have ew : IntKind.u64.wrap ((s : Int) - 16) = (s : Int) - 16 := IntWalk.u64_in _ (by omega)
  clear e
  go_enter Try.func46, Try.ntmps46
  go_wp2
  go_ret
  exact ⟨rfl, (Below.refl _ _).alloc (Nat.le_refl _) _⟩

end
end Go.Proofs.Ytbemaoncakcnjaa

/- The program's heap (layer 14): Stats. -/
namespace Go.Proofs.Ytbemaoncakcnjaa
open Go.RowKit

def stV (s : St5) : Value := .agg #[.int .i64 (s.used : Int), .int .i64 (s.free : Int), .int .i64 (s.bytes : Int), .int .i64 (s.len : Int), .int .i64 (s.cap : Int)]
/-- A row of five. -/
def stRow (a b c d e : Nat) : Array Value := #[.int .i64 (a : Int), .int .i64 (b : Int), .int .i64 (c : Int), .int .i64 (d : Int), .int .i64 (e : Int)]
theorem statL_snoc (l : List Bk) (x : Bk) : statL (l ++ [x]) = if x.used = true then ((statL l).1 + 1, (statL l).2.1, (statL l).2.2 + (x.size - 16)) else ((statL l).1, (statL l).2.1 + 1, (statL l).2.2) := by
  induction l with
  | nil => simp [statL]
  | cons y r ih =>
    rw [List.cons_append]
    unfold statL
    rw [ih]
    by_cases hx : x.used = true <;> by_cases hy : y.used = true <;> simp [hx, hy] <;> omega
theorem statL_le (l : List Bk) : (statL l).1 ≤ l.length ∧ (statL l).2.1 ≤ l.length ∧ (statL l).2.2 ≤ sumB l := by
  induction l with
  | nil => simp [statL, sumB]
  | cons y r ih =>
    unfold statL
    rw [List.length_cons]
    simp only [sumB]
    split <;> dsimp only <;> omega
theorem sumB_take_le (l : List Bk) (j : Nat) : sumB (l.take j) ≤ sumB l := by
  have := sumB_app (l.take j) (l.drop j)
  rw [List.take_append_drop] at this
  omega
theorem st_cells {w : World} {g : Nat} {t : TypeId} {a b c d e : Value} (h : w.heap[g]? = some (.cells #[a, b, c, d, e] t (0, 0))) :
    (w.cell? ⟨g, 0, none⟩ = some a ∧ w.cell? ⟨g, 1, none⟩ = some b ∧ w.cell? ⟨g, 2, none⟩ = some c ∧ w.cell? ⟨g, 3, none⟩ = some d ∧ w.cell? ⟨g, 4, none⟩ = some e) ∧
    (w.frozen? ⟨g, 0, none⟩ = false ∧ w.frozen? ⟨g, 1, none⟩ = false ∧ w.frozen? ⟨g, 2, none⟩ = false ∧ w.frozen? ⟨g, 3, none⟩ = false ∧ w.frozen? ⟨g, 4, none⟩ = false) := by
  refine ⟨⟨?_, ?_, ?_, ?_, ?_⟩, frozen_of_row w g 0 _ _ h, frozen_of_row w g 1 _ _ h, frozen_of_row w g 2 _ _ h, frozen_of_row w g 3 _ _ h, frozen_of_row w g 4 _ _ h⟩
  · rw [cell_of_row w g 0 _ _ (0, 0) h]; rfl
  · rw [cell_of_row w g 1 _ _ (0, 0) h]; rfl
  · rw [cell_of_row w g 2 _ _ (0, 0) h]; rfl
  · rw [cell_of_row w g 3 _ _ (0, 0) h]; rfl
  · rw [cell_of_row w g 4 _ _ (0, 0) h]; rfl
theorem st_set {w : World} {g : Nat} {t : TypeId} {a b c d e : Value} (h : w.heap[g]? = some (.cells #[a, b, c, d, e] t (0, 0))) (x0 x1 x2 x3 x4 : Value) :
    (((((w.setCell ⟨g, 0, none⟩ x0).setCell ⟨g, 1, none⟩ x1).setCell ⟨g, 2, none⟩ x2).setCell ⟨g, 3, none⟩ x3).setCell ⟨g, 4, none⟩ x4).heap[g]? = some (.cells #[x0, x1, x2, x3, x4] t (0, 0)) := by
  have h1 := heap_setCell_same w g 0 _ _ x0 h
  have h2 := heap_setCell_same _ g 1 _ _ x1 h1
  have h3 := heap_setCell_same _ g 2 _ _ x2 h2
  have h4 := heap_setCell_same _ g 3 _ _ x3 h3
  have h5 := heap_setCell_same _ g 4 _ _ x4 h4
  rw [h5]
  rfl
theorem alloc_sts (ρ : Operand → Value) (o : Oper) (ho : o.op = .alloc 56) (w : World) :
    (execOp ρ o).run Try.prog w = .ok (.value (.pointer (some ⟨w.heap.size, 0, none⟩))) (w.alloc (.cells #[.int .i64 0, .int .i64 0, .int .i64 0, .int .i64 0, .int .i64 0] 56)) := by
  unfold execOp
  simp only [ho]
  simp [go_sem]
set_option maxRecDepth 100000 in
theorem sts_ret {fn : Func} {R : Ending → World → Prop} {a : Act} {w : World} {p : Tmp} {g : Nat} {x0 x1 x2 x3 x4 : Int} (hres : fn.results = #[.cell p 56]) (hp : a.tmps.getD p undef = .pointer (some ⟨g, 0, none⟩)) (hd : a.defers = [])
    (hg : w.heap[g]? = some (.cells #[.int .i64 x0, .int .i64 x1, .int .i64 x2, .int .i64 x3, .int .i64 x4] 56 (0, 0))) (hR : R (.returned (.agg #[.int .i64 x0, .int .i64 x1, .int .i64 x2, .int .i64 x3, .int .i64 x4])) w) : bodyPost Try.prog fn R .ret a w := by
  refine bodyPost_ret (v := .agg #[.int .i64 x0, .int .i64 x1, .int .i64 x2, .int .i64 x3, .int .i64 x4]) ?_ hd hR
  exact results_cell_row hres _ _ g _ _ _ _ hp hg rfl rfl rfl
section
variable {w w' : World} {q g base cap c : Nat} {A : Option Addr} {bs out : List UInt8} {H H' : Hp}
set_option maxRecDepth 100000 in
set_option maxHeartbeats 4000000 in
theorem hstats_prog (h : PH w q g base cap A c bs H) :
    Calls Try.prog 22 #[.pointer (some ⟨q, 0, none⟩)] w fun e w' => e = .returned (stV H.stats) ∧ Below w.heap.size w w' := by
  have hl := h.len
  have hst : H.stats = ⟨(statL H.blks).1, (statL H.blks).2.1, (statL H.blks).2.2, bs.length, cap⟩ := by unfold Hp.stats; rw [h.rd.rt.lenE, h.cp]
  rw [hst]
  have hsum : 184 + sumB H.blks = bs.length := h.rd.rt.lenE
  have hbd := (h.rd.rt.bound (by rw [h.cp]; exact h.c16)).2
  have hwk := h.rd.rt.walk
  have hc16 := h.c16
  have hb62 := h.b62
  have hn512 := ((h.rd.rt.ok (by rw [h.cp]; exact h.c16) h.rd.dl)).n
  obtain ⟨l, hl0⟩ : ∃ l, H.blks = l := ⟨_, rfl⟩
  rw [hl0] at hsum hbd hwk hn512 ⊢
  obtain ⟨n, hn⟩ : ∃ n, bs.length = n := ⟨_, rfl⟩
  rw [hn] at hl hsum hbd ⊢
  obtain ⟨z1, hz1⟩ : ∃ z1, (statL l).1 = z1 := ⟨_, rfl⟩
  obtain ⟨z2, hz2⟩ : ∃ z2, (statL l).2.1 = z2 := ⟨_, rfl⟩
  obtain ⟨z3, hz3⟩ : ∃ z3, (statL l).2.2 = z3 := ⟨_, rfl⟩
  rw [hz1, hz2, hz3]
  have HZ := Lib.hid (show (statL l).1 = z1 ∧ (statL l).2.1 = z2 ∧ (statL l).2.2 = z3 from ⟨hz1, hz2, hz3⟩)
  clear hz1 hz2 hz3
  obtain ⟨w1, hw1⟩ : ∃ w1, w.alloc (.cells #[.int .i64 0, .int .i64 0, .int .i64 0, .int .i64 0, .int .i64 0] 56) = w1 := ⟨_, rfl⟩
  obtain ⟨wd, hwd⟩ : ∃ wd, w1.drew = wd := ⟨_, rfl⟩
  have hbd1 : Below w.heap.size w wd := by rw [← hwd, ← hw1]; exact ((Below.refl _ _).alloc (Nat.le_refl _) _).drew
  have n1 : wd.heap[w.heap.size]? = some (.cells #[.int .i64 0, .int .i64 0, .int .i64 0, .int .i64 0, .int .i64 0] 56 (0, 0)) := by rw [← hwd, ← hw1]; exact heap_alloc_new w _
  have h1 := h.below hbd1
  have k0 := h1.c0
  have hlq := h1.lt
  have hLN := len_any h1.ar
  have hCP := cap_any h1.ar
  rw [hn] at hLN
  have HLN := Lib.hid hLN
  have HNL := Lib.hid hn
  have HCP := Lib.hid hCP
  have HBD := Lib.hid hbd
  have HB1 := Lib.hid hbd1
  have HN1 := Lib.hid n1
  have HW1 := Lib.hid hw1
  have HWD := Lib.hid hwd
  have H1 := Lib.hid h1
  have HWK := Lib.hid hwk
  clear h hst hbd hw1 hwd hbd1 n1 h1 hLN hCP hn hwk hl0
  go_enter Try.func22, Try.ntmps22
  go_wp2_with (first | (rw [HW1.out]) | fail)
  refine Code.wp_mono (Q := fun ex a' w' => ex = .normal ∧ ∃ p, wd.heap.size ≤ p ∧ Below wd.heap.size wd w' ∧ w'.heap[p]? = some (.cells (stRow 0 0 0 n cap) 56 (0, 0)) ∧ a' = { tmps := #[.pointer (some ⟨q, 0, none⟩), undef, .pointer (some ⟨w.heap.size, 0, none⟩), .pointer (some ⟨p, 0, none⟩), undef, undef, undef, undef, .pointer (some ⟨q, 0, none⟩), .pointer (some ⟨q, 0, none⟩), .pointer (some ⟨q, 0, none⟩), .pointer (some ⟨g, 0, none⟩), .int .i64 (n : Int), .pointer (some ⟨q, 0, none⟩), .pointer (some ⟨q, 0, none⟩), .pointer (some ⟨q, 0, none⟩), .pointer (some ⟨g, 0, none⟩), .int .i64 (cap : Int), .agg #[.int .i64 0, .int .i64 0, .int .i64 0, .int .i64 (n : Int), .int .i64 (cap : Int)], undef, undef, undef, undef, undef, undef, undef, undef, undef, undef, undef, undef, undef, undef, undef, undef, undef, undef, undef, undef, undef, undef, undef, undef, undef, undef, undef, undef, undef, undef, undef, undef, undef], defers := [] }) ?cont ?reg
  case reg =>
    refine wp_region_plan wd.heap.size (.two [0, 1, 2, 3, 5, 6, 7, 8] 4 (.two [] 9 (.one [10] 11 (.fin [])) 11 (.one [] 9 (.fin [10]))) 11 (.one [] 4 (.one [] 9 (.fin [10])))) [12] (by kernel_rfl) (by kernel_rfl) (by kernel_rfl) (fun _ _ _ _ _ h => absurd h.1 (by nofun)) ?_
    rw [HWD.out]
    have q0 : ∀ z : LaterB wd.heap.size wd, z.val.cell? ⟨q, 0, none⟩ = some (.pointer (some ⟨g, 0, none⟩)) := fun z => (z.ext.cell (p := ⟨q, 0, none⟩) hlq).trans k0
    refine plan_two (l := ?seg1) ?hseg1 ?_
    case hseg1 => simp only [pick, List.getElem?_toArray, List.getElem?_cons_succ, List.getElem?_cons_zero]; rfl
    repeat (go_big_quiet_step (fail))
    refine wpQuiet_nil ?_
    clear q0 k0
    refine ⟨?wayA, ?wayC⟩
    case wayA =>
      refine tail_call (vs := #[.pointer (some ⟨g, 0, none⟩)]) Try.call33 rfl rfl rfl (R := fun r w' => r = .int .i64 (n : Int) ∧ w' = wd) (HLN.out.mono ?_) wd.heap.size (Nat.le_refl _) ?_
      · rintro e w' ⟨rfl, rfl⟩
        exact ⟨_, rfl, Below.refl _ _, rfl, rfl⟩
      rintro r w2 _ ⟨rfl, rfl⟩
      refine plan_two (l := []) rfl (wpQuiet_nil ?_)
      simp only [Act.put, List.setIfInBounds_toArray, List.set_cons_zero, List.set_cons_succ]
      refine ⟨?wayB, ?wayD⟩
      case wayB =>
        refine tail_call (vs := #[.pointer (some ⟨g, 0, none⟩)]) Try.call38 rfl rfl rfl (R := fun r w' => r = .int .i64 (cap : Int) ∧ w' = w2) (HCP.out.mono ?_) w2.heap.size (Nat.le_refl _) ?_
        · rintro e w' ⟨rfl, rfl⟩
          exact ⟨_, rfl, Below.refl _ _, rfl, rfl⟩
        rintro r w3 _ ⟨rfl, rfl⟩
        refine plan_one (l := ?seg2) ?hseg2 ?_
        case hseg2 => simp only [pick, List.getElem?_toArray, List.getElem?_cons_succ, List.getElem?_cons_zero]; rfl
        simp only [Act.put, List.setIfInBounds_toArray, List.set_cons_zero, List.set_cons_succ]
        repeat (go_big_quiet_step (fail))
        refine wpQuiet_nil ?_
        refine tail_val2 (some 3) rfl rfl rfl (alloc_sts _ _ rfl w3) ((Below.refl _ _).alloc (Nat.le_refl _) _) ⟨w3.heap.size, Nat.le_refl _, ?_⟩
        simp only [Act.put, List.setIfInBounds_toArray, List.set_cons_zero, List.set_cons_succ]
        refine plan_fin (l := []) (t := ?tl2) rfl ?htl2 (wpQuiet_nil ?_)
        case htl2 => simp only [pick, List.getElem?_toArray, List.getElem?_cons_succ, List.getElem?_cons_zero]; rfl
        go_wp2
        exact ⟨w3.heap.size, Nat.le_refl _, (Below.refl _ _).alloc (Nat.le_refl _) _, heap_alloc_new w3 _, rfl⟩
      case wayD =>
        refine tail_val2 (some 3) rfl rfl rfl (alloc_sts _ _ rfl w2) ((Below.refl _ _).alloc (Nat.le_refl _) _) ⟨w2.heap.size, Nat.le_refl _, ?_⟩
        simp only [Act.put, List.setIfInBounds_toArray, List.set_cons_zero, List.set_cons_succ]
        obtain ⟨w3, hw3⟩ : ∃ w3, w2.alloc (.cells #[.int .i64 0, .int .i64 0, .int .i64 0, .int .i64 0, .int .i64 0] 56) = w3 := ⟨_, rfl⟩
        have hb3 : Below w2.heap.size w2 w3 := by rw [← hw3]; exact (Below.refl _ _).alloc (Nat.le_refl _) _
        have n3 : w3.heap[w2.heap.size]? = some (.cells #[.int .i64 0, .int .i64 0, .int .i64 0, .int .i64 0, .int .i64 0] 56 (0, 0)) := by rw [← hw3]; exact heap_alloc_new w2 _
        rw [hw3]
        have hC3 := cap_any (H1.out.below hb3).ar
        refine plan_one (l := []) rfl (wpQuiet_nil ?_)
        refine tail_call (vs := #[.pointer (some ⟨g, 0, none⟩)]) Try.call38 rfl rfl rfl (R := fun r w' => r = .int .i64 (cap : Int) ∧ w' = w3) (hC3.mono ?_) w2.heap.size (Nat.le_refl _) ?_
        · rintro e w' ⟨rfl, rfl⟩
          exact ⟨_, rfl, Below.refl _ _, rfl, rfl⟩
        rintro r w4 _ ⟨rfl, rfl⟩
        refine plan_fin (l := ?la3) (t := ?tl3) ?hla3 ?htl3 ?_
        case hla3 => simp only [pick, List.getElem?_toArray, List.getElem?_cons_succ, List.getElem?_cons_zero]; rfl
        case htl3 => simp only [pick, List.getElem?_toArray, List.getElem?_cons_succ, List.getElem?_cons_zero]; rfl
        simp only [Act.put, List.setIfInBounds_toArray, List.set_cons_zero, List.set_cons_succ]
        repeat (go_big_quiet_step (fail))
        refine wpQuiet_nil ?_
        obtain ⟨⟨c0, c1, c2, c3, c4⟩, f0, f1, f2, f3, f4⟩ := st_cells n3
        have hlt3 := heap_lt n3
        have HB3 := Lib.hid hb3
        have HN3 := Lib.hid n3
        clear hw3 hb3 n3 hC3
        go_wp2
        exact ⟨w2.heap.size, Nat.le_refl _, ((((HB3.out.setCell (Nat.le_refl _) _).setCell (Nat.le_refl _) _).setCell (Nat.le_refl _) _).setCell (Nat.le_refl _) _).setCell (Nat.le_refl _) _, st_set HN3.out _ _ _ _ _, rfl⟩
    case wayC =>
      refine tail_val2 (some 3) rfl rfl rfl (alloc_sts _ _ rfl wd) ((Below.refl _ _).alloc (Nat.le_refl _) _) ⟨wd.heap.size, Nat.le_refl _, ?_⟩
      simp only [Act.put, List.setIfInBounds_toArray, List.set_cons_zero, List.set_cons_succ]
      obtain ⟨w3, hw3⟩ : ∃ w3, wd.alloc (.cells #[.int .i64 0, .int .i64 0, .int .i64 0, .int .i64 0, .int .i64 0] 56) = w3 := ⟨_, rfl⟩
      have hb3 : Below wd.heap.size wd w3 := by rw [← hw3]; exact (Below.refl _ _).alloc (Nat.le_refl _) _
      have n3 : w3.heap[wd.heap.size]? = some (.cells #[.int .i64 0, .int .i64 0, .int .i64 0, .int .i64 0, .int .i64 0] 56 (0, 0)) := by rw [← hw3]; exact heap_alloc_new wd _
      rw [hw3]
      have hC3 := cap_any (H1.out.below hb3).ar
      have hL3 := len_any (H1.out.below hb3).ar
      rw [HNL.out] at hL3
      refine plan_one (l := []) rfl (wpQuiet_nil ?_)
      refine tail_call (vs := #[.pointer (some ⟨g, 0, none⟩)]) Try.call33 rfl rfl rfl (R := fun r w' => r = .int .i64 (n : Int) ∧ w' = w3) (hL3.mono ?_) wd.heap.size (Nat.le_refl _) ?_
      · rintro e w' ⟨rfl, rfl⟩
        exact ⟨_, rfl, Below.refl _ _, rfl, rfl⟩
      rintro r w4 _ ⟨rfl, rfl⟩
      refine plan_one (l := []) rfl (wpQuiet_nil ?_)
      simp only [Act.put, List.setIfInBounds_toArray, List.set_cons_zero, List.set_cons_succ]
      refine tail_call (vs := #[.pointer (some ⟨g, 0, none⟩)]) Try.call38 rfl rfl rfl (R := fun r w' => r = .int .i64 (cap : Int) ∧ w' = w4) (hC3.mono ?_) wd.heap.size (Nat.le_refl _) ?_
      · rintro e w' ⟨rfl, rfl⟩
        exact ⟨_, rfl, Below.refl _ _, rfl, rfl⟩
      rintro r w5 _ ⟨rfl, rfl⟩
      refine plan_fin (l := ?la4) (t := ?tl4) ?hla4 ?htl4 ?_
      case hla4 => simp only [pick, List.getElem?_toArray, List.getElem?_cons_succ, List.getElem?_cons_zero]; rfl
      case htl4 => simp only [pick, List.getElem?_toArray, List.getElem?_cons_succ, List.getElem?_cons_zero]; rfl
      simp only [Act.put, List.setIfInBounds_toArray, List.set_cons_zero, List.set_cons_succ]
      repeat (go_big_quiet_step (fail))
      refine wpQuiet_nil ?_
      obtain ⟨⟨c0, c1, c2, c3, c4⟩, f0, f1, f2, f3, f4⟩ := st_cells n3
      have hlt3 := heap_lt n3
      have HB3 := Lib.hid hb3
      have HN3 := Lib.hid n3
      clear hw3 hb3 n3 hC3 hL3
      go_wp2
      exact ⟨wd.heap.size, Nat.le_refl _, ((((HB3.out.setCell (Nat.le_refl _) _).setCell (Nat.le_refl _) _).setCell (Nat.le_refl _) _).setCell (Nat.le_refl _) _).setCell (Nat.le_refl _) _, st_set HN3.out _ _ _ _ _, rfl⟩
  case cont =>
    rintro ex a' w2 ⟨rfl, p, hp, hb2, n2, rfl⟩
    have hb02 := HB1.out.trans (hb2.mono HB1.out.size)
    have h2 := H1.out.below hb2
    have k2 := h2.c0
    have hlq2 := h2.lt
    have hW := walkC w2 g base cap c A bs _ h2.ar hb62 (by rw [HNL.out]; exact hl) HWK.out
    dsimp only [BlksTold, Option.isSome, Option.getD, errV] at hW
    have HW := Lib.hid hW
    have HB2 := Lib.hid hb02
    have HN2 := Lib.hid n2
    have HNR := Lib.hid ((hb2.block w.heap.size (heap_lt HN1.out)).trans HN1.out)
    have HPW := Lib.hid (show p ≠ w.heap.size from fun e => by have := heap_lt HN1.out; omega)
    have HPG := Lib.hid (show w.heap.size ≤ p from Nat.le_trans HB1.out.size hp)
    have hpl2 := heap_lt n2
    clear h2 hW hb02 n2 hb2 hp HB1 HN1 HLN HCP H1 HW1 HWD hlq k0
    go_wp2_with fail
    refine HW.out.mono ?_
    rintro e w3 ⟨A3, c3, rfl, ho3, hb3⟩
    have hcl : l.length ≤ c3 ∧ c3 ≤ 9223372036854775807 := by
      rcases ho3.2 with ⟨h', h0⟩ | ⟨_, _, _, h', _, _, h1, h2, _⟩
      · injection h' with _ _ e; rw [h0, e]; omega
      · injection h' with _ _ e; unfold maxLen at h2; omega
    have HRB : Hid (∀ a, A3 = some a → w2.heap.size ≤ a.block) := fun a e => by subst e; exact (ho3.lt a.block rfl).1
    have HR := Lib.hid (BkRd.of_own ho3)
    have HN3 := Lib.hid ((hb3.block p hpl2).trans HN2.out)
    have HNR3 := Lib.hid ((hb3.block w.heap.size (heap_lt HNR.out)).trans HNR.out)
    have HB3 := Lib.hid (HB2.out.trans (hb3.mono HB2.out.size))
    have hpl3 := Nat.lt_of_lt_of_le hpl2 hb3.size
    clear ho3 hb3 HW HN2 HNR HB2 k2
    go_wp2
    go_loopw [29] (fun t wr => ∃ j : Nat, t = .int .i64 (j : Int) ∧ j ≤ l.length ∧ Tch (fun k => k = p) w3 wr ∧ wr.heap[p]? = some (.cells (stRow (statL (l.take j)).1 (statL (l.take j)).2.1 (statL (l.take j)).2.2 n cap) 56 (0, 0))) (fun t _ => l.length - (intOf t).toNat)
    case atStart => exact ⟨0, rfl, Nat.zero_le _, Tch.refl _ _, by rw [List.take_zero]; exact HN3.out⟩
    case round =>
      obtain ⟨j, rfl, hj, ht, hr⟩ := hrel
      have hle := statL_le (l.take j)
      have hsb := sumB_take_le l j
      have hlt0 : (l.take j).length ≤ 512 := by rw [List.length_take]; omega
      have nR := (ht.block w.heap.size (heap_lt HNR3.out) (Ne.symm HPW.out)).trans HNR3.out
      have hfin : Below w.heap.size w wr := HB3.out.trans (ht.below (fun k hk => by rw [hk]; exact HPG.out) HB3.out.size)
      by_cases hlt : j < l.length
      · obtain ⟨x, hx⟩ : ∃ x, l[j]? = some x := ⟨l[j], List.getElem?_eq_getElem hlt⟩
        have htk : l.take (j + 1) = l.take j ++ [x] := by
          rw [List.take_add_one, hx]; rfl
        have hsn := statL_snoc (l.take j) x
        rw [← htk] at hsn
        have hsz := HBD.out x (List.mem_of_getElem? hx)
        have hle2 := statL_le (l.take (j + 1))
        have hsb2 := sumB_take_le l (j + 1)
        obtain ⟨b2, q2, rfl, hbb, hcl2⟩ := HR.out (by omega)
        have hb2p : ¬ (fun k => k = p) b2 := fun e => by
          have e : b2 = p := e
          have := HRB.out _ rfl
          dsimp only at this
          omega
        obtain ⟨p0, p1, p2⟩ := hcl2 j x hx
        have r0 := ht.cell p0 hb2p
        have r1 := ht.cell p1 hb2p
        have r2 := ht.cell p2 hb2p
        obtain ⟨xo, xs, xu⟩ := x
        dsimp only at p0 p1 p2 r0 r1 r2 hsz hsn
        obtain ⟨s1, hs1⟩ : ∃ s1, (statL (l.take j)).1 = s1 := ⟨_, rfl⟩
        obtain ⟨s2, hs2⟩ : ∃ s2, (statL (l.take j)).2.1 = s2 := ⟨_, rfl⟩
        obtain ⟨s3, hs3⟩ : ∃ s3, (statL (l.take j)).2.2 = s3 := ⟨_, rfl⟩
        rw [hs1, hs2, hs3] at hr hle hsn
        have hS : Hid (s1 ≤ 512 ∧ s2 ≤ 512 ∧ s3 ≤ 16384) := (show _ from ⟨by omega, by omega, by omega⟩)
        obtain ⟨hs1', hs2', hs3'⟩ := hS.out
        obtain ⟨w4, hw4⟩ : ∃ w4, wr.alloc (.cells #[.int .i64 (xo : Int), .int .i64 (xs : Int), .bool xu] 65) = w4 := ⟨_, rfl⟩
        have hb4 : Below wr.heap.size wr w4 := by rw [← hw4]; exact (Below.refl _ _).alloc (Nat.le_refl _) _
        have n4 : w4.heap[wr.heap.size]? = some (.cells #[.int .i64 (xo : Int), .int .i64 (xs : Int), .bool xu] 65 (0, 0)) := by rw [← hw4]; exact heap_alloc_new wr _
        have r4 := (hb4.block p (heap_lt hr)).trans hr
        have T4 := Lib.hid (ht.trans (Tch.of_below (S := fun k => k = p) hb4) (fun _ _ h => h))
        obtain ⟨⟨d0, d1, d2⟩, _⟩ := blk_cells n4
        have hlt4 := heap_lt' n4
        have hltp := heap_lt' r4
        obtain ⟨⟨v0, v1, v2, v3, v4⟩, f0, f1, f2, f3, f4⟩ := st_cells r4
        have HW4 := Lib.hid hw4
        have HR4 := Lib.hid r4
        have HN4 := Lib.hid n4
        have HPN := Lib.hid (show wr.heap.size ≠ p from fun e => by have := heap_lt hr; omega)
        cases xu with
        | true =>
          rw [if_pos rfl] at hsn
          have HUS := Lib.hid (fun W => husable_any W (xo : Int) xs true (by omega) (by omega))
          obtain ⟨L, hL⟩ : ∃ L, xs - 16 = L := ⟨_, rfl⟩
          rw [hL] at HUS hsn
          have hL14 : L ≤ 16384 := by omega
          obtain ⟨s5, hs5⟩ : ∃ s5, s1 + 1 = s5 := ⟨_, rfl⟩
          obtain ⟨s6, hs6⟩ : ∃ s6, s3 + L = s6 := ⟨_, rfl⟩
          have e5 : (s1 : Int) + 1 = (s5 : Int) := by omega
          have e6 : (s3 : Int) + (L : Int) = (s6 : Int) := by omega
          rw [hs5, hs6] at hsn
          have HSN := Lib.hid hsn
          have hs5' : s5 ≤ 513 := by omega
          have hs6' : s6 ≤ 32768 := by omega
          obtain ⟨w5, hw5⟩ : ∃ w5, w4.setCell ⟨p, 0, none⟩ (.int .i64 (s5 : Int)) = w5 := ⟨_, rfl⟩
          obtain ⟨we, hwe⟩ : ∃ we, w5.drew = we := ⟨_, rfl⟩
          have r5 : we.heap[p]? = some (.cells (stRow s5 s2 s3 n cap) 56 (0, 0)) := by
            rw [← hwe, ← hw5]
            exact heap_setCell_same w4 p 0 _ _ (.int .i64 (s5 : Int)) r4
          have n5 : we.heap[wr.heap.size]? = some (.cells #[.int .i64 (xo : Int), .int .i64 (xs : Int), .bool true] 65 (0, 0)) := by
            rw [← hwe, ← hw5]
            exact (Below.heap_setCell w4 ⟨p, 0, none⟩ _ wr.heap.size HPN.out).trans n4
          have T5 : Tch (fun k => k = p) w3 we := by
            rw [← hwe, ← hw5]
            exact (T4.out.trans (Tch.set (S := fun k => k = p) w4 ⟨p, 0, none⟩ _ rfl) (fun _ _ h => h)).drew
          have HW5 := Lib.hid hw5
          have HWE := Lib.hid hwe
          have HR5 := Lib.hid r5
          have HT5 := Lib.hid T5
          have hlt5 := heap_lt' n5
          have hltp5 := heap_lt' r5
          obtain ⟨⟨e0, e1, e2⟩, _⟩ := blk_cells n5
          obtain ⟨⟨u0, u1, u2, u3, u4⟩, _⟩ := st_cells r5
          clear hx htk hsn hsz hcl2 p0 p1 p2 ht hr hs1 hs2 hs3 hle hsb hlt0 hle2 hsb2 nR hfin hw4 hb4 n4 r4 hL hS hw5 hwe r5 n5 T5 T4 HR4 HN4 hs5 hs6
          go_wp2_with (first | (rw [HW4.out]) | (rw [HW5.out]) | fail)
          refine wp_region_tail we.heap.size [([0, 1, 2], 3)] [4, 5, 6] [7] (by kernel_rfl) (by kernel_rfl) (by kernel_rfl) (fun _ _ _ _ _ h => h) ?_
          rw [HWE.out]
          have q0 : ∀ z : LaterB we.heap.size we, z.val.cell? ⟨p, 2, none⟩ = some (.int .i64 (s3 : Int)) := fun z => (z.ext.cell (p := ⟨p, 2, none⟩) hltp5).trans u2
          have q1 : ∀ z : LaterB we.heap.size we, z.val.cell? ⟨wr.heap.size, 0, none⟩ = some (.int .i64 (xo : Int)) := fun z => (z.ext.cell (p := ⟨wr.heap.size, 0, none⟩) hlt5).trans e0
          have q2 : ∀ z : LaterB we.heap.size we, z.val.cell? ⟨wr.heap.size, 1, none⟩ = some (.int .i64 (xs : Int)) := fun z => (z.ext.cell (p := ⟨wr.heap.size, 1, none⟩) hlt5).trans e1
          have q3 : ∀ z : LaterB we.heap.size we, z.val.cell? ⟨wr.heap.size, 2, none⟩ = some (.bool true) := fun z => (z.ext.cell (p := ⟨wr.heap.size, 2, none⟩) hlt5).trans e2
          refine tail_cons (l := ?seg5) ?hseg5 ?_
          case hseg5 => simp only [pick, List.getElem?_toArray, List.getElem?_cons_succ, List.getElem?_cons_zero]; rfl
          repeat (go_big_quiet_step (fail))
          refine wpQuiet_nil ?_
          clear q0 q1 q2 q3 u0 u1 u2 u3 u4 e0 e1 e2 v0 v1 v2 v3 v4 f0 f1 f2 f3 f4 d0 d1 d2 hlt4 hltp
          refine tail_call (vs := #[.agg #[.int .i64 (xo : Int), .int .i64 (xs : Int), .bool true]]) Try.call46 rfl rfl rfl (R := fun r w' => r = .int .u64 (L : Int) ∧ Below we.heap.size we w') ((HUS.out we).mono ?_) we.heap.size (Nat.le_refl _) ?_
          · rintro e w' ⟨rfl, hb⟩
            exact ⟨_, rfl, hb, rfl, hb⟩
          rintro r w6 _ ⟨rfl, hb6⟩
          have r6 := (hb6.block p hltp5).trans HR5.out
          obtain ⟨⟨u0, u1, u2, u3, u4⟩, f0, f1, f2, f3, f4⟩ := st_cells r6
          have hlt6 := heap_lt' r6
          have HFN : Hid (Tch (fun k => k = p) w3 (w6.setCell ⟨p, 2, none⟩ (.int .i64 (s6 : Int))) ∧ (w6.setCell ⟨p, 2, none⟩ (.int .i64 (s6 : Int))).heap[p]? = some (.cells (stRow s5 s2 s6 n cap) 56 (0, 0))) :=
            ⟨(HT5.out.trans (Tch.of_below (S := fun k => k = p) hb6) (fun _ _ h => h)).trans (Tch.set (S := fun k => k = p) w6 ⟨p, 2, none⟩ _ rfl) (fun _ _ h => h), heap_setCell_same w6 p 2 _ _ (.int .i64 (s6 : Int)) r6⟩
          clear hb6 r6
          refine tail_last (l := ?la6) (t := ?tl6) ?hla6 ?htl6 ?_
          case hla6 => simp only [pick, List.getElem?_toArray, List.getElem?_cons_succ, List.getElem?_cons_zero]; rfl
          case htl6 => simp only [pick, List.getElem?_toArray, List.getElem?_cons_succ, List.getElem?_cons_zero]; rfl
          simp only [Act.put, List.setIfInBounds_toArray, List.set_cons_zero, List.set_cons_succ]
          repeat (go_big_quiet_step (fail))
          refine wpQuiet_nil ?_
          go_wp2
          go_roundw
          case rel => exact ⟨j + 1, by go_num, by omega, HFN.out.1, by rw [HSN.out]; exact HFN.out.2⟩
          case measure => simp only [intOf]; omega
        | false =>
          rw [if_neg (by decide)] at hsn
          obtain ⟨s5, hs5⟩ : ∃ s5, s2 + 1 = s5 := ⟨_, rfl⟩
          have e5 : (s2 : Int) + 1 = (s5 : Int) := by omega
          rw [hs5] at hsn
          have HSN := Lib.hid hsn
          have hs5' : s5 ≤ 513 := by omega
          have HFN : Hid (Tch (fun k => k = p) w3 (w4.setCell ⟨p, 1, none⟩ (.int .i64 (s5 : Int))) ∧ (w4.setCell ⟨p, 1, none⟩ (.int .i64 (s5 : Int))).heap[p]? = some (.cells (stRow s1 s5 s3 n cap) 56 (0, 0))) :=
            ⟨T4.out.trans (Tch.set (S := fun k => k = p) w4 ⟨p, 1, none⟩ _ rfl) (fun _ _ h => h), heap_setCell_same w4 p 1 _ _ (.int .i64 (s5 : Int)) r4⟩
          clear hx htk hsn hsz hcl2 p0 p1 p2 ht hr hs1 hs2 hs3 hle hsb hlt0 hle2 hsb2 nR hfin hw4 hb4 n4 r4 hS hs5 T4 HR4 HN4
          go_wp2_with (first | (rw [HW4.out]) | fail)
          go_roundw
          case rel => exact ⟨j + 1, by go_num, by omega, HFN.out.1, by rw [HSN.out]; exact HFN.out.2⟩
          case measure => simp only [intOf]; omega
      · have htl : l.take j = l := List.take_of_length_le (by omega)
        rw [htl, HZ.out.1, HZ.out.2.1, HZ.out.2.2] at hr
        obtain ⟨⟨v0, v1, v2, v3, v4⟩, _⟩ := st_cells hr
        obtain ⟨⟨c0, c1, c2, c3', c4⟩, f0, f1, f2, f3, f4⟩ := st_cells nR
        have hltr := heap_lt' nR
        have hltp := heap_lt' hr
        have NR := Lib.hid nR
        have HF := Lib.hid hfin
        clear hr hle hsb hlt0 ht nR hfin htl
        go_wp2
        (try simp only [Exit.inBlock, Exit.then])
        refine sts_ret (g := w.heap.size) (x0 := (z1 : Int)) (x1 := (z2 : Int)) (x2 := (z3 : Int)) (x3 := (n : Int)) (x4 := (cap : Int)) Try.results22 ?_ ?_ (st_set NR.out _ _ _ _ _) ?_
        · rfl
        · rfl
        · exact ⟨rfl, ((((HF.out.setCell (Nat.le_refl _) _).setCell (Nat.le_refl _) _).setCell (Nat.le_refl _) _).setCell (Nat.le_refl _) _).setCell (Nat.le_refl _) _⟩
end
end Go.Proofs.Ytbemaoncakcnjaa

/- The program's heap (layer 14): New, Of, Arena, Widen, Rebuild. -/
namespace Go.Proofs.Ytbemaoncakcnjaa
open Go.RowKit

/-- A new heap. -/
def PMade (base cap : Nat) (H : Hp) (w : World) (e : Ending) (w' : World) : Prop :=
  ∃ q g A c bs, e = .returned (.tuple #[.pointer (some ⟨q, 0, none⟩), .nilIface]) ∧ PH w' q g base cap A c bs H ∧ Below w.heap.size w w' ∧ w.heap.size ≤ q ∧ w.heap.size ≤ g ∧ ∀ a, A = some a → w.heap.size ≤ a.block
section
variable {w w' : World} {q g base cap c : Nat} {A : Option Addr} {bs out : List UInt8} {H H' : Hp}
set_option maxHeartbeats 1000000 in
theorem hof_good (h : Ar w 74 g base cap A c bs) (hb : base ≤ 4611686018427387904) (hc : cap ≤ 16384) (hl : bs.length ≤ cap) (hk : checkB bs = true) :
    Calls Try.prog 27 #[.pointer (some ⟨g, 0, none⟩)] w fun e w' => ∃ H bs', PMade base cap H w e w' ∧ RtD bs' H ∧ bs' = bs ∧ ∃ q g A c, e = .returned (.tuple #[.pointer (some ⟨q, 0, none⟩), .nilIface]) ∧ PH w' q g base cap A c bs H := by
  have hC := checkC w g base cap c A bs _ h hb (by omega) hk
  dsimp only [errV] at hC
  obtain ⟨H, hR, hcp⟩ := rtd_of hk hl
  have HC := Lib.hid hC
  have HCL := Lib.hid (fun W (hb : Below w.heap.size w W) => clone_any (h.below hb) (by omega))
  have HR := Lib.hid hR
  have HCP := Lib.hid hcp
  clear hC hR hcp h
  go_enter Try.func27, Try.ntmps27
  go_wp2_with fail
  refine HC.out.mono ?_
  rintro e w2 ⟨rfl, hb2⟩
  have HC2 := Lib.hid (HCL.out w2 hb2)
  have HB2 := Lib.hid hb2
  clear hb2 HC HCL
  go_wp2_with fail
  refine HC2.out.mono ?_
  rintro e w3 ⟨g3, A3, c3, rfl, a3, hb3, k1, k2⟩
  obtain ⟨w4, hw4⟩ : ∃ w4, w3.alloc (.cells #[.pointer (some ⟨g3, 0, none⟩)] 68) = w4 := ⟨_, rfl⟩
  have hb4 : Below w3.heap.size w3 w4 := by rw [← hw4]; exact (Below.refl _ _).alloc (Nat.le_refl _) _
  have n4 : w4.heap[w3.heap.size]? = some (.cells #[.pointer (some ⟨g3, 0, none⟩)] 68 (0, 0)) := by rw [← hw4]; exact heap_alloc_new w3 _
  have hb03 := HB2.out.trans (hb3.mono HB2.out.size)
  have hph : PH w4 w3.heap.size g3 base cap A3 c3 bs H := ⟨n4, a3.below hb4, HR.out, HCP.out, hc, hb⟩
  have HF : Hid (PMade base cap H w (.returned (.tuple #[.pointer (some ⟨w3.heap.size, 0, none⟩), .nilIface])) w4) :=
    ⟨_, _, A3, c3, bs, rfl, hph, hb03.trans (hb4.mono hb03.size), hb03.size, Nat.le_trans HB2.out.size k1, fun a e => Nat.le_trans HB2.out.size (k2 a e)⟩
  have HPH := Lib.hid hph
  have HW4 := Lib.hid hw4
  clear a3 hb3 k1 k2 hw4 hb4 n4 hb03 hph HC2 HB2
  go_wp2_with (first | (rw [HW4.out]) | fail)
  go_ret2
  exact ⟨H, bs, HF.out, HR.out, rfl, _, _, _, _, rfl, HPH.out⟩
set_option maxHeartbeats 1000000 in
theorem harena_any (h : PH w q g base cap A c bs H) :
    Calls Try.prog 12 #[.pointer (some ⟨q, 0, none⟩)] w fun e w' => Cloned base cap bs w e w' := by
  have HC := Lib.hid (clone_any h.ar (by have := h.len; omega))
  have k0 := h.c0
  have hlq := h.lt
  clear h
  go_enter Try.func12, Try.ntmps12
  go_wp2_with fail
  refine HC.out.mono ?_
  rintro e w2 ⟨g2, A2, c2, rfl, h2⟩
  have HF := Lib.hid h2
  clear h2 HC k0
  go_wp2
  go_ret
  exact ⟨g2, A2, c2, rfl, HF.out⟩
end
end Go.Proofs.Ytbemaoncakcnjaa
