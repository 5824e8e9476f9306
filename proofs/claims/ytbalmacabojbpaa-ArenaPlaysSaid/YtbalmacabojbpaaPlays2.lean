/- What a deed comes to, of an arena and of the document's own: the same. -/
import Derived.Test.YtbalmacabojbpaaPlays1
import Derived.Test.YtbalmacabojbpaaDisk4
namespace Go.Proofs.Ytbalmacabojbpaa
open Go.RowKit

/-- An arena and the document's own, alike, apart from each other, all above B. -/
structure Pr (B : Nat) (w : World) (ga gm base cap : Nat) (A : Option Addr) (ca : Nat) (M : Option Addr) (cm : Nat) (bs : List UInt8) : Prop where
  a : Ar w 69 ga base cap A ca bs
  m : Ar w 31 gm base cap M cm bs
  sep : ∀ x y, A = some x → M = some y → x.block ≠ y.block
  ba : B ≤ ga
  bm : B ≤ gm
  bA : ∀ x, A = some x → B ≤ x.block
  bM : ∀ y, M = some y → B ≤ y.block
def PrE (B : Nat) (w : World) (ga gm base cap : Nat) (bs : List UInt8) : Prop := ∃ A ca M cm, Pr B w ga gm base cap A ca M cm bs

section
variable {B : Nat} {w w1 w2 : World} {ga gm base cap cap' ca cm : Nat} {A M : Option Addr} {bs bs' : List UInt8}
theorem Pr.apart (h : Pr B w ga gm base cap A ca M cm bs) : ∀ k, foot gm M k → ¬ foot ga A k := by
  intro k hk hk'
  rcases hk with rfl | ⟨y, ey, rfl⟩
  · rcases hk' with e | ⟨x, ex, e⟩
    · exact type_ne h.m.obj h.a.obj (by decide) e
    · exact own_ne h.a.own h.m.obj (by decide) ex e.symm
  · rcases hk' with e | ⟨x, ex, e⟩
    · exact own_ne h.m.own h.a.obj (by decide) ey e
    · exact h.sep x y ex ey e.symm
theorem Pr.below (h : Pr B w ga gm base cap A ca M cm bs) (hb : Below w.heap.size w w1) : Pr B w1 ga gm base cap A ca M cm bs :=
  ⟨h.a.below hb, h.m.below hb, h.sep, h.ba, h.bm, h.bA, h.bM⟩
theorem Pr.footA (h : Pr B w ga gm base cap A ca M cm bs) {k : Nat} (hk : foot ga A k) : B ≤ k := by
  rcases hk with rfl | ⟨x, e, rfl⟩
  · exact h.ba
  · exact h.bA x e
theorem Pr.footM (h : Pr B w ga gm base cap A ca M cm bs) {k : Nat} (hk : foot gm M k) : B ≤ k := by
  rcases hk with rfl | ⟨x, e, rfl⟩
  · exact h.bm
  · exact h.bM x e
/-- The document's own behind a step of the arena. -/
theorem Pr.mid (h : Pr B w ga gm base cap A ca M cm bs) (h1 : Became 69 ga base cap' A bs' w w1) (hB : B ≤ w.heap.size) : Ar w1 31 gm base cap M cm bs ∧ Below B w w1 ∧ B ≤ w1.heap.size := by
  obtain ⟨A1, c1, ha1, t1, _⟩ := h1
  exact ⟨h.m.tch t1 h.apart, t1.below (fun k hk => h.footA hk) hB, Nat.le_trans hB t1.size⟩
/-- Both have made a step. -/
theorem Pr.step (h : Pr B w ga gm base cap A ca M cm bs) (h1 : Became 69 ga base cap' A bs' w w1) (h2 : Became 31 gm base cap' M bs' w1 w2) (hB : B ≤ w.heap.size) : PrE B w2 ga gm base cap' bs' ∧ Below B w w2 ∧ B ≤ w2.heap.size := by
  obtain ⟨hm1, hb1, hs1⟩ := h.mid h1 hB
  obtain ⟨A1, c1, ha1, t1, n1⟩ := h1
  obtain ⟨M2, c2, hm2, t2, n2⟩ := h2
  have sep1 : ∀ x y, A1 = some x → M = some y → x.block ≠ y.block := by
    intro x y ex ey
    rcases n1 with rfl | n1
    · exact h.sep x y ex ey
    · have := n1 x ex
      have := h.m.alt ey
      omega
  have hA1 : ∀ x, A1 = some x → B ≤ x.block := by
    intro x ex
    rcases n1 with rfl | n1
    · exact h.bA x ex
    · exact Nat.le_trans hB (n1 x ex)
  have p1 : Pr B w1 ga gm base cap' A1 c1 M cm bs → True := fun _ => trivial
  have apart2 : ∀ k, foot ga A1 k → ¬ foot gm M k := by
    intro k hk hk'
    rcases hk with rfl | ⟨x, ex, rfl⟩
    · rcases hk' with e | ⟨y, ey, e⟩
      · exact type_ne ha1.obj hm1.obj (by decide) e
      · exact own_ne hm1.own ha1.obj (by decide) ey e.symm
    · rcases hk' with e | ⟨y, ey, e⟩
      · exact own_ne ha1.own hm1.obj (by decide) ex e
      · exact sep1 x y ex ey e
  refine ⟨⟨A1, c1, M2, c2, ha1.tch t2 apart2, hm2, ?_, h.ba, h.bm, hA1, ?_⟩, hb1.trans (t2.below (fun k hk => h.footM hk) hs1), Nat.le_trans hs1 t2.size⟩
  · intro x y ex ey
    rcases n2 with rfl | n2
    · exact sep1 x y ex ey
    · have := n2 y ey
      have := ha1.alt ex
      omega
  · intro y ey
    rcases n2 with rfl | n2
    · exact h.bM y ey
    · exact Nat.le_trans hs1 (n2 y ey)
end

/-- A deed, as its seven cells. -/
structure De where
  what : Int
  addr : Nat
  from_ : Nat
  n : Nat
  v : Nat
  x : UInt8
  bA : Option Addr
  bn : Nat
  bc : Nat
def De.cells (d : De) : Array Value := #[.int .i64 d.what, .int .u64 (d.addr : Int), .int .u64 (d.from_ : Int), .int .u64 (d.n : Int), .int .u64 (d.v : Int), .int .u8 (d.x.toNat : Int), .slice d.bA d.bn d.bc]
/-- Its numbers fit; its bytes lie below B. -/
structure De.fit (d : De) (w : World) (B : Nat) : Prop where
  addr : d.addr < 18446744073709551616
  from_ : d.from_ < 18446744073709551616
  n : d.n < 18446744073709551616
  v : d.v < 18446744073709551616
  len : d.bn ≤ 20000
  bytes : ∃ cs, Rd w B d.bA d.bn cs

def DoneE (B : Nat) (w : World) (ga gm base : Nat) (e : Ending) (w' : World) : Prop := e = .returned (.int .i64 1) ∧ (∃ cap' bs', PrE B w' ga gm base cap' bs' ∧ bs'.length ≤ cap' ∧ cap' ≤ 16384) ∧ Below B w w'

theorem DoneE.same {B : Nat} {w w4 w' : World} {ga gm base cap ca cm : Nat} {A M : Option Addr} {bs : List UInt8} (h : Pr B w4 ga gm base cap A ca M cm bs) (hb : Below B w w4) (hs : B ≤ w4.heap.size) (hl : bs.length ≤ cap) (hc : cap ≤ 16384) (hb2 : Below w4.heap.size w4 w') : DoneE B w ga gm base (.returned (.int .i64 1)) w' :=
  ⟨rfl, ⟨cap, bs, ⟨A, ca, M, cm, h.below hb2⟩, hl, hc⟩, hb.trans (hb2.mono hs)⟩
theorem DoneE.step {B : Nat} {w w4 w5 w6 : World} {ga gm base cap cap' ca cm : Nat} {A M : Option Addr} {bs bs' : List UInt8} (h : Pr B w4 ga gm base cap A ca M cm bs) (hb : Below B w w4) (hs : B ≤ w4.heap.size) (hl : bs'.length ≤ cap') (hc : cap' ≤ 16384)
    (h1 : Became 69 ga base cap' A bs' w4 w5) (h2 : Became 31 gm base cap' M bs' w5 w6) : DoneE B w ga gm base (.returned (.int .i64 1)) w6 := by
  obtain ⟨p, b, _⟩ := h.step h1 h2 hs
  exact ⟨rfl, ⟨cap', bs', p, hl, hc⟩, hb.trans b⟩
theorem copy_any {w : World} {g base cap c : Nat} {A : Option Addr} {bs : List UInt8} (h : Ar w 69 g base cap A c bs) (hl : bs.length ≤ 1000000) (x y n d f : Nat) (hx : x < 18446744073709551616) (hy : y < 18446744073709551616) (h1 : base ≤ x) (hd : x - base = d) (h2 : d + n ≤ bs.length) (h3 : base ≤ y) (hf : y - base = f) (h4 : f + n ≤ bs.length) :
    Calls Try.prog 42 #[.pointer (some ⟨g, 0, none⟩), .int .u64 (x : Int), .int .u64 (y : Int), .int .u64 (n : Int)] w fun e w' => e = .returned .nilIface ∧ Became 69 g base cap A (lay bs d ((bs.drop f).take n)) w w' := by
  rcases Nat.eq_zero_or_pos n with h0 | h0
  · subst h0
    rw [List.take_zero, lay_nil]
    exact copy_zero h hl x y d f hx hy h1 hd h2 h3 hf h4
  · exact copy_ok h hl x y n d f hx hy h1 hd h2 h3 hf h4 h0

theorem Pr.keepk {B : Nat} {w w1 : World} {ga gm base cap cap' ca cm k : Nat} {A M : Option Addr} {bs bs' : List UInt8} {u : Array Value} (h : Pr B w ga gm base cap A ca M cm bs) (h1 : Became 69 ga base cap' A bs' w w1) (hn : w.heap[k]? = some (.cells u 33 (0, 0))) : w1.heap[k]? = w.heap[k]? := by
  obtain ⟨_, _, _, t, _⟩ := h1
  refine t.block k (heap_lt hn) fun hk => ?_
  rcases hk with e | ⟨x, ex, e⟩
  · exact type_ne hn h.a.obj (by decide) e
  · exact own_ne h.a.own hn (by decide) ex e.symm
theorem max_run {P : Program} {o : Oper} {a : Act} {w : World} {s x : Operand} {ats : Array TypeId} (ho : o.op = .call { callee := .builtin .max, args := #[s, x], argTypes := ats }) (m n r : Int) (hs : a.eval s = .int .i64 m) (hx : a.eval x = .int .i64 n) (hr : (if n > m then n else m) = r) :
    (execOp a.eval o).run P w = .ok (.value (.int .i64 r)) w := by
  obtain ⟨dst, op, ty, pos, after, guard⟩ := o
  dsimp only at ho
  subst ho
  show Sem.run P (do pure (Next.value (← Builtin.max_ ats ty (#[s, x].map a.eval)))) w = _
  simp [Builtin.max_, Builtin.max2, hs, hx, ← hr]
theorem min_run {P : Program} {o : Oper} {a : Act} {w : World} {s x : Operand} {ats : Array TypeId} (ho : o.op = .call { callee := .builtin .min, args := #[s, x], argTypes := ats }) (m n r : Int) (hs : a.eval s = .int .i64 m) (hx : a.eval x = .int .i64 n) (hr : (if n < m then n else m) = r) :
    (execOp a.eval o).run P w = .ok (.value (.int .i64 r)) w := by
  obtain ⟨dst, op, ty, pos, after, guard⟩ := o
  dsimp only at ho
  subst ho
  show Sem.run P (do pure (Next.value (← Builtin.min_ ats ty (#[s, x].map a.eval)))) w = _
  simp [Builtin.min_, Builtin.min2, hs, hx, ← hr]
theorem conv_B9 {w : World} {B n : Nat} {A : Option Addr} {bs : List UInt8} (h : Rd w B A n bs) (c : Nat) (x : LaterB B w) : (convert 29 9 (.slice A n c)).run Try.prog x.val = .ok (.string (strB bs)) x.val := conv_rd (h.below x.ext)
theorem conv_nil (W : World) : (convert 29 9 (.slice none 0 0)).run Try.prog W = .ok (.string (strB [])) W := conv_rd (B := 0) Rd.nil_

set_option maxRecDepth 100000 in
set_option maxHeartbeats 4000000 in
theorem do_any {B : Nat} {w : World} {ga gm base cap ca cm : Nat} {A M : Option Addr} {bs : List UInt8} (h : Pr B w ga gm base cap A ca M cm bs) (hB : B ≤ w.heap.size) (hbase : base ≤ 4611686018427387904) (hlc : bs.length ≤ cap) (hcap : cap ≤ 16384) (d : De) (hf : d.fit w B) :
    Calls Try.prog 9 #[.pointer (some ⟨ga, 0, none⟩), .pointer (some ⟨gm, 0, none⟩), .agg #[.int .i64 d.what, .int .u64 (d.addr : Int), .int .u64 (d.from_ : Int), .int .u64 (d.n : Int), .int .u64 (d.v : Int), .int .u8 (d.x.toNat : Int), .slice d.bA d.bn d.bc]] w fun e w' => DoneE B w ga gm base e w' := by
  obtain ⟨hf1, hf2, hf3, hf4, hf5, cs, hcs⟩ := hf
  obtain ⟨what, addr, from_, n, v, xb, bA, bn, bc⟩ := d
  dsimp only at hf1 hf2 hf3 hf4 hf5 hcs ⊢
  obtain ⟨w1, hw1⟩ : ∃ w1, (w.alloc (.cells #[.int .i64 what, .int .u64 (addr : Int), .int .u64 (from_ : Int), .int .u64 (n : Int), .int .u64 (v : Int), .int .u8 (xb.toNat : Int), .slice bA bn bc] 33)).drew = w1 := ⟨_, rfl⟩
  have hb1 : Below w.heap.size w w1 := by rw [← hw1]; exact ((Below.refl _ _).alloc (Nat.le_refl _) _).drew
  have hn1 : w1.heap[w.heap.size]? = some (.cells #[.int .i64 what, .int .u64 (addr : Int), .int .u64 (from_ : Int), .int .u64 (n : Int), .int .u64 (v : Int), .int .u8 (xb.toNat : Int), .slice bA bn bc] 33 (0, 0)) := by rw [← hw1]; exact heap_alloc_new w _
  obtain ⟨k, hk⟩ : ∃ k, w.heap.size = k := ⟨_, rfl⟩
  have h1 := h.below hb1
  rw [hk] at hn1 hb1
  have hkl : k < w1.heap.size := heap_lt hn1
  obtain ⟨x, hx⟩ : ∃ x, atN what base addr = x := ⟨_, rfl⟩
  obtain ⟨y, hy⟩ : ∃ y, atN what base from_ = y := ⟨_, rfl⟩
  have HX := Lib.hid hx
  have HY := Lib.hid hy
  have HW1 := Lib.hid hw1
  have HN1 := Lib.hid hn1
  have H1 := Lib.hid h1
  have HB1 := Lib.hid hb1
  have HK := Lib.hid hk
  have HCS := Lib.hid hcs
  clear hx hy hw1 hn1 h1 hb1 hcs h
  go_enter Try.func9, Try.ntmps9
  go_wp2_with fail
  refine wp_region_tail w1.heap.size [] [0, 1, 2, 3, 4, 5, 6] [7, 8] (by kernel_rfl) (by kernel_rfl) (by kernel_rfl) (fun _ _ _ _ _ h => h) ?_
  rw [HW1.out]
  clear HW1 hk
  have t (j : Nat) (u : Value) (hu : (#[.int .i64 what, .int .u64 (addr : Int), .int .u64 (from_ : Int), .int .u64 (n : Int), .int .u64 (v : Int), .int .u8 (xb.toNat : Int), .slice bA bn bc] : Array Value)[j]? = some u) (z : LaterB w1.heap.size w1) : z.val.cell? ⟨k, j, none⟩ = some u := by
    rw [z.ext.cell (p := ⟨k, j, none⟩) hkl, cell_of_row w1 k j _ _ (0, 0) HN1.out]
    exact hu
  have t0 := t 0 _ rfl
  have t1 := t 1 _ rfl
  have t2 := t 2 _ rfl
  have t3 := t 3 _ rfl
  have t4 := t 4 _ rfl
  have t5 := t 5 _ rfl
  have t6 := t 6 _ rfl
  have tb : ∀ z : LaterB w1.heap.size w1, z.val.cell? ⟨gm, 0, none⟩ = some (.int .u64 (base : Int)) := fun z => (z.ext.cell (p := ⟨gm, 0, none⟩) H1.out.m.lt).trans H1.out.m.c0
  clear t
  refine tail_last (l := ?la1) (t := ?tl1) ?hla1 ?htl1 ?_
  case hla1 => simp only [pick, List.getElem?_toArray, List.getElem?_cons_succ, List.getElem?_cons_zero]; rfl
  case htl1 => simp only [pick, List.getElem?_toArray, List.getElem?_cons_succ, List.getElem?_cons_zero]; rfl
  repeat (go_big_quiet_step (fail))
  refine wpQuiet_nil ?_
  clear t0 t1 t2 t3 t4 t5 t6 tb
  go_wp2_with fail
  refine (at_any w1 what _ _ _ _ _ bA bn bc base addr x hbase hf1 HX.out).mono ?_
  rintro e w2 ⟨rfl, hb2⟩
  obtain ⟨w3, hw3⟩ : ∃ w3, w2.drew = w3 := ⟨_, rfl⟩
  have hb3 : Below w1.heap.size w1 w3 := by rw [← hw3]; exact hb2.drew
  have HN3 := Lib.hid ((hb3.block k hkl).trans HN1.out)
  have H3 := Lib.hid (H1.out.below hb3)
  have HB3 := Lib.hid (HB1.out.trans (hb3.mono (Nat.le_of_lt hkl)))
  have hkl3 : k < w3.heap.size := Nat.lt_of_lt_of_le hkl hb3.size
  have HW3 := Lib.hid hw3
  clear hw3 hb2 hb3 HN1 H1 HB1 hkl
  go_wp2_with fail
  refine wp_region_tail w3.heap.size [] [0, 1, 2, 3, 4, 5, 6] [7, 8] (by kernel_rfl) (by kernel_rfl) (by kernel_rfl) (fun _ _ _ _ _ h => h) ?_
  rw [HW3.out]
  clear HW3
  have t (j : Nat) (u : Value) (hu : (#[.int .i64 what, .int .u64 (addr : Int), .int .u64 (from_ : Int), .int .u64 (n : Int), .int .u64 (v : Int), .int .u8 (xb.toNat : Int), .slice bA bn bc] : Array Value)[j]? = some u) (z : LaterB w3.heap.size w3) : z.val.cell? ⟨k, j, none⟩ = some u := by
    rw [z.ext.cell (p := ⟨k, j, none⟩) hkl3, cell_of_row w3 k j _ _ (0, 0) HN3.out]
    exact hu
  have t0 := t 0 _ rfl
  have t1 := t 1 _ rfl
  have t2 := t 2 _ rfl
  have t3 := t 3 _ rfl
  have t4 := t 4 _ rfl
  have t5 := t 5 _ rfl
  have t6 := t 6 _ rfl
  have tb : ∀ z : LaterB w3.heap.size w3, z.val.cell? ⟨gm, 0, none⟩ = some (.int .u64 (base : Int)) := fun z => (z.ext.cell (p := ⟨gm, 0, none⟩) H3.out.m.lt).trans H3.out.m.c0
  clear t
  refine tail_last (l := ?la2) (t := ?tl2) ?hla2 ?htl2 ?_
  case hla2 => simp only [pick, List.getElem?_toArray, List.getElem?_cons_succ, List.getElem?_cons_zero]; rfl
  case htl2 => simp only [pick, List.getElem?_toArray, List.getElem?_cons_succ, List.getElem?_cons_zero]; rfl
  repeat (go_big_quiet_step (fail))
  refine wpQuiet_nil ?_
  clear t0 t1 t2 t3 t4 t5 t6 tb
  go_wp2_with fail
  refine (at_any w3 what _ _ _ _ _ bA bn bc base from_ y hbase hf2 HY.out).mono ?_
  rintro e w4 ⟨rfl, hb4⟩
  have hn4 := (hb4.block k hkl3).trans HN3.out
  have d0 := cell_of_row w4 k 0 _ _ (0, 0) hn4
  have d3 := cell_of_row w4 k 3 _ _ (0, 0) hn4
  have d4 := cell_of_row w4 k 4 _ _ (0, 0) hn4
  have d5 := cell_of_row w4 k 5 _ _ (0, 0) hn4
  have d6 := cell_of_row w4 k 6 _ _ (0, 0) hn4
  simp only [List.getElem?_toArray, List.getElem?_cons_zero, List.getElem?_cons_succ] at d0 d3 d4 d5 d6
  have H4 := Lib.hid (H3.out.below hb4)
  have hb04 : Below B w w4 := (HB3.out.trans (hb4.mono (Nat.le_of_lt hkl3))).mono (by have := HK.out; omega)
  have hs4 : B ≤ w4.heap.size := by have := HK.out; have := hb4.size; omega
  have hkl4 : k < w4.heap.size := Nat.lt_of_lt_of_le hkl3 hb4.size
  have HB4 := Lib.hid hb04
  have HS4 := Lib.hid hs4
  have HR4 := Lib.hid (HCS.out.below hb04)
  have HN4 := Lib.hid hn4
  obtain ⟨p, hp⟩ : ∃ p, (what % 9).toNat = p := ⟨_, rfl⟩
  have hp9 : p < 9 := by omega
  have hpk := pick_any what 9 w4 (by omega) (by omega)
  rw [show what % ((9 : Nat) : Int) = what % 9 from rfl, hp] at hpk
  have HPK : Hid (Calls Try.prog 23 #[.int .i64 what, .int .i64 9] w4 fun e w' => e = .returned (.int .i64 (p : Int)) ∧ w4 = w') := hpk
  have hxl : x < 18446744073709551616 := by rw [← HX.out]; unfold atN; split <;> omega
  have hyl : y < 18446744073709551616 := by rw [← HY.out]; unfold atN; split <;> omega
  have hl1 : bs.length ≤ 1000000 := by omega
  clear hb4 hn4 hpk hp hb04 hs4 HN3 H3 HB3 hkl3 HX HY HCS
  have qn := conv_nil
  have QN := Lib.hid qn
  clear qn
  by_cases hwh : what < 0
  case' pos =>
    obtain ⟨N, hN⟩ : ∃ N : Nat, (n : Int) % 3000 = (N : Int) := ⟨n % 3000, by omega⟩
    have hNl : N < 18446744073709551616 := by omega
    have HNN := Lib.hid hN
    clear hN
    go_wp2_with fail
    rw [HNN.out]
    clear HNN
  case' neg =>
    obtain ⟨N, hN⟩ : ∃ N : Nat, N = n := ⟨_, rfl⟩
    have hNl : N < 18446744073709551616 := by omega
    subst hN
    go_wp2_with fail
  all_goals
    with_reducible refine HPK.out.mono ?_
    rintro e w5 ⟨rfl, rfl⟩
    clear HPK d0 d3
    rcases (by omega : p = 0 ∨ p = 1 ∨ p = 2 ∨ p = 3 ∨ p = 4 ∨ p = 5 ∨ p = 6 ∨ p = 7 ∨ p = 8) with rfl | rfl | rfl | rfl | rfl | rfl | rfl | rfl | rfl
    · clear d4 d5 d6
      by_cases hz : N ≤ 9223372036854775807
      · by_cases hfit : bs.length + N ≤ cap
        · have HG := Lib.hid (grow_ok H4.out.a N hlc hcap hfit)
          go_wp2_with fail
          with_reducible refine HG.out.mono ?_
          rintro e w5 ⟨rfl, hbe⟩
          have HM := Lib.hid (refgrow_ok (H4.out.mid hbe HS4.out).1 N hlc hcap hfit)
          have HBE := Lib.hid hbe
          clear hbe HG
          go_wp2_with fail
          refine (code_nil _).mono ?_
          rintro e w6 ⟨rfl, rfl⟩
          go_wp2_with fail
          with_reducible refine HM.out.mono ?_
          rintro e w6 ⟨rfl, hbe2⟩
          have HE := Lib.hid (DoneE.step H4.out HB4.out HS4.out (by simp; omega) hcap HBE.out hbe2)
          clear hbe2 HBE HM
          have qn := QN.out
          go_wp2
          go_ret
          exact HE.out
        · have HG := Lib.hid (grow_full H4.out.a N hlc hcap (by omega))
          go_wp2_with fail
          with_reducible refine HG.out.mono ?_
          rintro e w5 ⟨rfl, k5, rfl⟩
          have hb5 := below_drewN w4 k5
          generalize w4.drewN k5 = w5 at hb5 ⊢
          have HM := Lib.hid (refgrow_full (H4.out.m.below hb5) N hlc hcap (by omega))
          have HB5 := Lib.hid hb5
          clear hb5 HG
          go_wp2_with fail
          refine (code_err _ 5 (by omega) (by omega)).mono ?_
          rintro e w6 ⟨rfl, rfl⟩
          go_wp2_with fail
          with_reducible refine HM.out.mono ?_
          rintro e w6 ⟨rfl, k6, rfl⟩
          have HE := Lib.hid (DoneE.same H4.out HB4.out HS4.out hlc hcap (HB5.out.trans ((below_drewN w5 k6).mono HB5.out.size)))
          clear HM
          have qn := QN.out
          go_wp2
          go_ret
          exact HE.out
      · obtain ⟨Z, hZ⟩ : ∃ Z, wrap64 (N : Int) = Z := ⟨_, rfl⟩
        have hZ0 : Z < 0 := by rw [← hZ]; unfold wrap64; omega
        have HZ := Lib.hid hZ
        clear hZ
        go_wp2_with fail
        rw [HZ.out]
        refine (grow_neg Z hZ0).mono ?_
        rintro e w5 ⟨rfl, rfl⟩
        go_wp2_with fail
        refine (code_err _ 1 (by omega) (by omega)).mono ?_
        rintro e w6 ⟨rfl, rfl⟩
        go_wp2_with fail
        rw [HZ.out]
        refine (refgrow_neg Z hZ0).mono ?_
        rintro e w6 ⟨rfl, rfl⟩
        have HE := Lib.hid (DoneE.same H4.out HB4.out HS4.out hlc hcap (Below.refl _ _))
        have qn := QN.out
        go_wp2
        go_ret
        exact HE.out
    · clear d4 d5 d6
      by_cases hz : N ≤ 9223372036854775807
      · by_cases hfit : cap ≤ N ∧ N ≤ 16384
        · have HG := Lib.hid (widen_ok H4.out.a N hfit.1 hfit.2)
          go_wp2_with fail
          with_reducible refine HG.out.mono ?_
          rintro e w5 ⟨rfl, hbe⟩
          have HM := Lib.hid (refwiden_ok (H4.out.mid hbe HS4.out).1 N hfit.1 hfit.2)
          have HBE := Lib.hid hbe
          clear hbe HG
          go_wp2_with fail
          refine (code_nil _).mono ?_
          rintro e w6 ⟨rfl, rfl⟩
          go_wp2_with fail
          with_reducible refine HM.out.mono ?_
          rintro e w6 ⟨rfl, hbe2⟩
          have HE := Lib.hid (DoneE.step H4.out HB4.out HS4.out (by omega) hfit.2 HBE.out hbe2)
          clear hbe2 HBE HM
          have qn := QN.out
          go_wp2
          go_ret
          exact HE.out
        · have HG := Lib.hid (widen_no H4.out.a (N : Int) (by omega))
          have HM := Lib.hid (refwiden_no H4.out.m (N : Int) (by omega))
          go_wp2_with fail
          with_reducible refine HG.out.mono ?_
          rintro e w5 ⟨rfl, rfl⟩
          go_wp2_with fail
          refine (code_err _ 1 (by omega) (by omega)).mono ?_
          rintro e w6 ⟨rfl, rfl⟩
          go_wp2_with fail
          with_reducible refine HM.out.mono ?_
          rintro e w6 ⟨rfl, rfl⟩
          have HE := Lib.hid (DoneE.same H4.out HB4.out HS4.out hlc hcap (Below.refl _ _))
          clear HM HG
          have qn := QN.out
          go_wp2
          go_ret
          exact HE.out
      · obtain ⟨Z, hZ⟩ : ∃ Z, wrap64 (N : Int) = Z := ⟨_, rfl⟩
        have hZ0 : Z < 0 := by rw [← hZ]; unfold wrap64; omega
        have HZ := Lib.hid hZ
        clear hZ
        have HG := Lib.hid (widen_no H4.out.a Z (by omega))
        have HM := Lib.hid (refwiden_no H4.out.m Z (by omega))
        go_wp2_with fail
        rw [HZ.out]
        with_reducible refine HG.out.mono ?_
        rintro e w5 ⟨rfl, rfl⟩
        go_wp2_with fail
        refine (code_err _ 1 (by omega) (by omega)).mono ?_
        rintro e w6 ⟨rfl, rfl⟩
        go_wp2_with fail
        rw [HZ.out]
        with_reducible refine HM.out.mono ?_
        rintro e w6 ⟨rfl, rfl⟩
        have HE := Lib.hid (DoneE.same H4.out HB4.out HS4.out hlc hcap (Below.refl _ _))
        clear HM HG
        have qn := QN.out
        go_wp2
        go_ret
        exact HE.out
    · clear d4 d5 d6
      by_cases hok : base ≤ x ∧ x - base + N ≤ bs.length
      · have hg := load_ok H4.out.a hl1 x N (x - base) hxl hok.1 rfl hok.2
        have hm := fun W (hW : Below w4.heap.size w4 W) => refload_ok (H4.out.m.below hW) hl1 x N (x - base) hxl hok.1 rfl hok.2
        obtain ⟨ys, hys⟩ : ∃ ys, (bs.drop (x - base)).take N = ys := ⟨_, rfl⟩
        rw [hys] at hg hm
        have HG := Lib.hid hg
        have HM := Lib.hid hm
        clear hg hm hys
        go_wp2_with fail
        with_reducible refine HG.out.mono ?_
        rintro e w5 ⟨A5, c5, rfl, o5, b5⟩
        have HM5 := Lib.hid (HM.out w5 b5)
        have R5 := Lib.hid (Rd.own o5)
        have HB5 := Lib.hid b5
        clear o5 b5 HM HG
        go_wp2_with fail
        with_reducible refine HM5.out.mono ?_
        rintro e w6 ⟨A6, c6, rfl, o6, b6⟩
        have qa := fun c => conv_rd (c := c) (R5.out.below b6)
        have qb := fun c => conv_rd (c := c) (Rd.own o6)
        have HE := Lib.hid (DoneE.same H4.out HB4.out HS4.out hlc hcap (HB5.out.trans (b6.mono HB5.out.size)))
        have QA := Lib.hid qa
        have QB := Lib.hid qb
        clear o6 b6 HM5 R5 HB5 qa qb
        go_wp2_with fail
        refine (code_nil _).mono ?_
        rintro e w7 ⟨rfl, rfl⟩
        have qa := QA.out
        have qb := QB.out
        go_wp2
        go_ret
        exact HE.out
      · have hno : base ≤ x → bs.length < x - base + N := fun h => by omega
        have HG := Lib.hid (load_no H4.out.a hl1 x N hxl hno)
        have HM := Lib.hid (refload_no H4.out.m hl1 x N hxl hNl hno)
        clear hno hok
        go_wp2_with fail
        with_reducible refine HG.out.mono ?_
        rintro e w5 ⟨rfl, rfl⟩
        go_wp2_with fail
        with_reducible refine HM.out.mono ?_
        rintro e w6 ⟨rfl, k6, rfl⟩
        have HE := Lib.hid (DoneE.same H4.out HB4.out HS4.out hlc hcap (below_drewN w4 k6))
        clear HM HG
        go_wp2_with fail
        refine (code_err _ 2 (by omega) (by omega)).mono ?_
        rintro e w7 ⟨rfl, rfl⟩
        have qn := QN.out
        go_wp2
        go_ret
        exact HE.out
    · clear d4 d5
      obtain rfl : cs.length = bn := HR4.out.1
      by_cases hok : base ≤ x ∧ x - base + cs.length ≤ bs.length
      · have HG := Lib.hid (store_ok H4.out.a hl1 x (x - base) bA bc cs B HR4.out hxl hok.1 rfl hok.2)
        go_wp2_with fail
        with_reducible refine HG.out.mono ?_
        rintro e w5 ⟨rfl, hbe⟩
        obtain ⟨hm5, hb5, hs5⟩ := H4.out.mid hbe HS4.out
        have d6' := cell_of_row w5 k 6 _ _ (0, 0) ((H4.out.keepk hbe HN4.out).trans HN4.out)
        simp only [List.getElem?_toArray, List.getElem?_cons_zero, List.getElem?_cons_succ] at d6'
        have HM := Lib.hid (refstore_ok hm5 hl1 x (x - base) bA bc cs ((HR4.out.below hb5).more hs5) (fun hn a ea hfo => by
          obtain ⟨b', o', e1, hlt, _⟩ := HR4.out.2 hn
          rw [ea] at e1
          injection e1 with e1
          have := H4.out.footM hfo
          rw [e1] at this
          have h9 : b' < B := hlt
          have h8 : B ≤ b' := this
          omega) hxl hok.1 rfl hok.2)
        have HBE := Lib.hid hbe
        have hlen := lay_length bs (x - base) cs hok.2
        have HLEN := Lib.hid hlen
        clear hbe HG hm5 hb5 hs5 d6 hlen
        go_wp2_with fail
        refine (code_nil _).mono ?_
        rintro e w6 ⟨rfl, rfl⟩
        go_wp2_with fail
        with_reducible refine HM.out.mono ?_
        rintro e w6 ⟨rfl, hbe2⟩
        have HE := Lib.hid (DoneE.step H4.out HB4.out HS4.out (by rw [HLEN.out]; exact hlc) hcap HBE.out hbe2)
        clear hbe2 HBE HM d6'
        have qn := QN.out
        go_wp2
        go_ret
        exact HE.out
      · have hno : base ≤ x → bs.length < x - base + cs.length := fun h => by omega
        have HG := Lib.hid (store_no H4.out.a hl1 x cs.length bA bc hxl (by omega) hno)
        have HM := Lib.hid (refstore_no H4.out.m hl1 x cs.length bA bc hxl (by omega) hno)
        clear hno hok
        go_wp2_with fail
        with_reducible refine HG.out.mono ?_
        rintro e w5 ⟨rfl, rfl⟩
        go_wp2_with fail
        refine (code_err _ 2 (by omega) (by omega)).mono ?_
        rintro e w7 ⟨rfl, rfl⟩
        go_wp2_with fail
        with_reducible refine HM.out.mono ?_
        rintro e w6 ⟨rfl, k6, rfl⟩
        have HE := Lib.hid (DoneE.same H4.out HB4.out HS4.out hlc hcap (below_drewN w4 k6))
        clear HM HG d6
        have qn := QN.out
        go_wp2
        go_ret
        exact HE.out
    · clear d4 d5 d6
      by_cases hok : base ≤ x ∧ x - base + 8 ≤ bs.length
      · have hg := word_ok H4.out.a hl1 x (x - base) hxl hok.1 rfl hok.2
        have hm := refword_ok H4.out.m hl1 x (x - base) hxl hok.1 rfl hok.2
        obtain ⟨V, hV⟩ : ∃ V, numB ((bs.drop (x - base)).take 8) = V := ⟨_, rfl⟩
        rw [hV] at hg hm
        have HG := Lib.hid hg
        have HM := Lib.hid hm
        clear hg hm hV
        go_wp2_with fail
        with_reducible refine HG.out.mono ?_
        rintro e w5 ⟨rfl, rfl⟩
        go_wp2_with fail
        with_reducible refine HM.out.mono ?_
        rintro e w6 ⟨rfl, b6⟩
        have HE := Lib.hid (DoneE.same H4.out HB4.out HS4.out hlc hcap b6)
        clear HM HG b6
        go_wp2_with fail
        refine (code_nil _).mono ?_
        rintro e w7 ⟨rfl, rfl⟩
        have qn := QN.out
        go_wp2
        go_ret
        exact HE.out
      · have hno : base ≤ x → bs.length < x - base + 8 := fun h => by omega
        have HG := Lib.hid (word_no H4.out.a hl1 x hxl hno)
        have HM := Lib.hid (refword_no H4.out.m hl1 x hxl hno)
        clear hno hok
        go_wp2_with fail
        with_reducible refine HG.out.mono ?_
        rintro e w5 ⟨rfl, rfl⟩
        go_wp2_with fail
        with_reducible refine HM.out.mono ?_
        rintro e w6 ⟨rfl, b6⟩
        have HE := Lib.hid (DoneE.same H4.out HB4.out HS4.out hlc hcap b6)
        clear HM HG b6
        go_wp2_with fail
        refine (code_err _ 2 (by omega) (by omega)).mono ?_
        rintro e w7 ⟨rfl, rfl⟩
        have qn := QN.out
        go_wp2
        go_ret
        exact HE.out
    · clear d5 d6
      have h8 : (lowB 8 v).length = 8 := lowB_length 8 v
      by_cases hok : base ≤ x ∧ x - base + 8 ≤ bs.length
      · have HG := Lib.hid (setword_ok H4.out.a hl1 x (x - base) v hxl hf4 hok.1 rfl hok.2)
        have hlen := lay_length bs (x - base) (lowB 8 v) (by rw [h8]; exact hok.2)
        have HLEN := Lib.hid hlen
        have H8 := Lib.hid h8
        clear hlen h8
        go_wp2_with fail
        with_reducible refine HG.out.mono ?_
        rintro e w5 ⟨rfl, hbe⟩
        obtain ⟨hm5, hb5, hs5⟩ := H4.out.mid hbe HS4.out
        have d4' := cell_of_row w5 k 4 _ _ (0, 0) ((H4.out.keepk hbe HN4.out).trans HN4.out)
        simp only [List.getElem?_toArray, List.getElem?_cons_zero, List.getElem?_cons_succ] at d4'
        have HBE := Lib.hid hbe
        have HM5 := Lib.hid hm5
        clear hbe HG hm5 hb5 hs5 d4
        go_wp2_with fail
        refine (code_nil _).mono ?_
        rintro e w6 ⟨rfl, rfl⟩
        go_wp2_with fail
        refine (low_any v w5 hf4).mono ?_
        rintro e w6 ⟨A6, c6, rfl, o6, b6⟩
        have hs := refstore_ok (HM5.out.below b6) hl1 x (x - base) A6 c6 (lowB 8 v) (Rd.own o6) (fun _ a ea => foot_lt_not HM5.out (o6.lt a.block (by rw [ea]; rfl)).1) hxl hok.1 rfl (by rw [H8.out]; exact hok.2)
        have HM := Lib.hid hs
        have HB6 := Lib.hid b6
        clear o6 b6 hs HM5 d4'
        go_wp2_with fail
        with_reducible refine HM.out.mono ?_
        rintro e w7 ⟨rfl, hbe2⟩
        have HE := Lib.hid (DoneE.step H4.out HB4.out HS4.out (by rw [HLEN.out]; exact hlc) hcap HBE.out (hbe2.after HB6.out))
        clear hbe2 HBE HM
        have qn := QN.out
        go_wp2
        go_ret
        exact HE.out
      · have hno : base ≤ x → bs.length < x - base + 8 := fun h => by omega
        have HG := Lib.hid (setword_no H4.out.a hl1 x v hxl hf4 hno)
        have HNO := Lib.hid hno
        have H8 := Lib.hid h8
        clear hno hok h8
        go_wp2_with fail
        with_reducible refine HG.out.mono ?_
        rintro e w5 ⟨rfl, b5⟩
        have d4' := cell_of_row w5 k 4 _ _ (0, 0) ((b5.block k hkl4).trans HN4.out)
        simp only [List.getElem?_toArray, List.getElem?_cons_zero, List.getElem?_cons_succ] at d4'
        have HB5 := Lib.hid b5
        clear b5 HG d4
        go_wp2_with fail
        refine (code_err _ 2 (by omega) (by omega)).mono ?_
        rintro e w6 ⟨rfl, rfl⟩
        go_wp2_with fail
        refine (low_any v w5 hf4).mono ?_
        rintro e w6 ⟨A6, c6, rfl, o6, b6⟩
        have HM := Lib.hid (refstore_no ((H4.out.m.below HB5.out).below b6) hl1 x (lowB 8 v).length A6 c6 hxl (by rw [H8.out]; omega) (by rw [H8.out]; exact HNO.out))
        have HB6 := Lib.hid (HB5.out.trans (b6.mono HB5.out.size))
        clear o6 b6 d4'
        go_wp2_with fail
        with_reducible refine HM.out.mono ?_
        rintro e w7 ⟨rfl, k7, rfl⟩
        have HE := Lib.hid (DoneE.same H4.out HB4.out HS4.out hlc hcap (HB6.out.trans ((below_drewN w6 k7).mono HB6.out.size)))
        clear HM
        have qn := QN.out
        go_wp2
        go_ret
        exact HE.out
    · clear d4 d5 d6
      by_cases hok : base ≤ x ∧ x - base + N ≤ bs.length
      · by_cases hok2 : base ≤ y ∧ y - base + N ≤ bs.length
        · have hlen := lay_length bs (x - base) ((bs.drop (y - base)).take N) (by simp; omega)
          have HG := Lib.hid (copy_any H4.out.a hl1 x y N (x - base) (y - base) hxl hyl hok.1 rfl hok.2 hok2.1 rfl hok2.2)
          have HLEN := Lib.hid hlen
          clear hlen
          go_wp2_with fail
          with_reducible refine HG.out.mono ?_
          rintro e w5 ⟨rfl, hbe⟩
          have HM := Lib.hid (refcopy_ok (H4.out.mid hbe HS4.out).1 hl1 x y N (x - base) (y - base) hxl hyl hok.1 rfl hok.2 hok2.1 rfl hok2.2)
          have HBE := Lib.hid hbe
          clear hbe HG
          go_wp2_with fail
          refine (code_nil _).mono ?_
          rintro e w6 ⟨rfl, rfl⟩
          go_wp2_with fail
          with_reducible refine HM.out.mono ?_
          rintro e w6 ⟨rfl, hbe2⟩
          have HE := Lib.hid (DoneE.step H4.out HB4.out HS4.out (by rw [HLEN.out]; exact hlc) hcap HBE.out hbe2)
          clear hbe2 HBE HM
          have qn := QN.out
          go_wp2
          go_ret
          exact HE.out
        · have hno : base ≤ y → bs.length < y - base + N := fun h => by omega
          have HG := Lib.hid (copy_no2 H4.out.a hl1 x y N (x - base) hxl hyl hok.1 rfl hok.2 hno)
          have HM := Lib.hid (refcopy_no1 H4.out.m hl1 x y N hyl hNl hno)
          clear hno hok2
          go_wp2_with fail
          with_reducible refine HG.out.mono ?_
          rintro e w5 ⟨rfl, rfl⟩
          go_wp2_with fail
          refine (code_err _ 2 (by omega) (by omega)).mono ?_
          rintro e w6 ⟨rfl, rfl⟩
          go_wp2_with fail
          with_reducible refine HM.out.mono ?_
          rintro e w6 ⟨rfl, b6⟩
          have HE := Lib.hid (DoneE.same H4.out HB4.out HS4.out hlc hcap b6)
          clear HM HG b6
          have qn := QN.out
          go_wp2
          go_ret
          exact HE.out
      · have hno : base ≤ x → bs.length < x - base + N := fun h => by omega
        have HG := Lib.hid (copy_no1 H4.out.a hl1 x y N hxl hno)
        have HM : Hid (Calls Try.prog 43 #[.pointer (some ⟨gm, 0, none⟩), .int .u64 (x : Int), .int .u64 (y : Int), .int .u64 (N : Int)] w4 fun e w' => e = .returned (.int .i64 2) ∧ Below w4.heap.size w4 w') := by
          by_cases hok2 : base ≤ y ∧ y - base + N ≤ bs.length
          · exact refcopy_no2 H4.out.m hl1 x y N (y - base) hxl hyl hok2.1 rfl hok2.2 hno
          · exact refcopy_no1 H4.out.m hl1 x y N hyl hNl (fun h => by omega)
        clear hno hok
        go_wp2_with fail
        with_reducible refine HG.out.mono ?_
        rintro e w5 ⟨rfl, rfl⟩
        go_wp2_with fail
        refine (code_err _ 2 (by omega) (by omega)).mono ?_
        rintro e w6 ⟨rfl, rfl⟩
        go_wp2_with fail
        with_reducible refine HM.out.mono ?_
        rintro e w6 ⟨rfl, b6⟩
        have HE := Lib.hid (DoneE.same H4.out HB4.out HS4.out hlc hcap b6)
        clear HM HG b6
        have qn := QN.out
        go_wp2
        go_ret
        exact HE.out
    · clear d4 d6
      by_cases hok : base ≤ x ∧ x - base + N ≤ bs.length
      · have hlen := lay_length bs (x - base) (List.replicate N xb) (by simp; omega)
        have HG := Lib.hid (fill_ok H4.out.a hl1 x N (x - base) xb hxl hok.1 rfl hok.2)
        have HLEN := Lib.hid hlen
        clear hlen
        go_wp2_with fail
        with_reducible refine HG.out.mono ?_
        rintro e w5 ⟨rfl, hbe⟩
        have d5' := cell_of_row w5 k 5 _ _ (0, 0) ((H4.out.keepk hbe HN4.out).trans HN4.out)
        simp only [List.getElem?_toArray, List.getElem?_cons_zero, List.getElem?_cons_succ] at d5'
        have HM := Lib.hid (reffill_ok (H4.out.mid hbe HS4.out).1 hl1 x N (x - base) xb hxl hok.1 rfl hok.2)
        have HBE := Lib.hid hbe
        clear hbe HG d5
        go_wp2_with fail
        refine (code_nil _).mono ?_
        rintro e w6 ⟨rfl, rfl⟩
        go_wp2_with fail
        with_reducible refine HM.out.mono ?_
        rintro e w6 ⟨rfl, hbe2⟩
        have HE := Lib.hid (DoneE.step H4.out HB4.out HS4.out (by rw [HLEN.out]; exact hlc) hcap HBE.out hbe2)
        clear hbe2 HBE HM d5'
        have qn := QN.out
        go_wp2
        go_ret
        exact HE.out
      · have hno : base ≤ x → bs.length < x - base + N := fun h => by omega
        have HG := Lib.hid (fill_no H4.out.a hl1 x N (xb.toNat : Int) hxl hno)
        have HM := Lib.hid (reffill_no H4.out.m hl1 x N (xb.toNat : Int) hxl hNl hno)
        clear hno hok
        go_wp2_with fail
        with_reducible refine HG.out.mono ?_
        rintro e w5 ⟨rfl, rfl⟩
        go_wp2_with fail
        refine (code_err _ 2 (by omega) (by omega)).mono ?_
        rintro e w6 ⟨rfl, rfl⟩
        go_wp2_with fail
        with_reducible refine HM.out.mono ?_
        rintro e w6 ⟨rfl, b6⟩
        have HE := Lib.hid (DoneE.same H4.out HB4.out HS4.out hlc hcap b6)
        clear HM HG b6 d5
        have qn := QN.out
        go_wp2
        go_ret
        exact HE.out
  · clear d4 d5 d6
    have HG := Lib.hid (clone_any H4.out.a hl1)
    go_wp2_with fail
    with_reducible refine HG.out.mono ?_
    rintro e w5 ⟨go, Ao, co, rfl, ao, b5, hgo, hAo⟩
    obtain ⟨w6, hw6⟩ : ∃ w6, w5.drew = w6 := ⟨_, rfl⟩
    have h6 : Pr B w6 ga gm base cap A ca M cm bs := by rw [← hw6]; exact (H4.out.below b5).below (Below.refl _ _).drew
    have ao6 : Ar w6 69 go base cap Ao co bs := by rw [← hw6]; exact ao.drew
    have b46 : Below w4.heap.size w4 w6 := by rw [← hw6]; exact b5.drew
    obtain ⟨m9, hm9⟩ : ∃ m9, min bs.length 9 = m9 := ⟨_, rfl⟩
    have hm9a : m9 ≤ bs.length := by omega
    have hm9b : m9 ≤ 9 := by omega
    have hm9c : m9 = bs.length ∨ m9 = 9 := by omega
    have hfi := fill_ok h6.a hl1 base m9 0 7 (by omega) (Nat.le_refl _) (by omega) (by omega)
    have HFI := Lib.hid hfi
    have HBA := Lib.hid (base_any h6.a)
    have HLE := Lib.hid (len_any h6.a)
    have H6 := Lib.hid h6
    have AO6 := Lib.hid ao6
    have HB46 := Lib.hid b46
    have HW6 := Lib.hid hw6
    have HGO := Lib.hid hgo
    have HAO := Lib.hid hAo
    have HM9 : Hid ((if (9 : Int) < (bs.length : Int) then 9 else (bs.length : Int)) = (m9 : Int)) := (show _ = _ by split <;> omega)
    have hs6 : B ≤ w6.heap.size := Nat.le_trans HS4.out b46.size
    have HS6 := Lib.hid hs6
    clear hfi h6 ao6 b46 hw6 hgo hAo ao b5 hm9 hs6 HG
    go_wp2_with fail
    refine wp_region_tail B [([0, 1, 3], 2), ([], 4), ([], 5), ([], 6), ([7], 8), ([9, 10, 11, 14, 15, 16, 17, 18], 12), ([13, 19, 20, 21, 22, 24, 25, 26, 27], 23), ([28, 29, 30, 31, 33, 34, 35, 36], 32)] [37, 38] [] (by kernel_rfl) (by kernel_rfl) (by kernel_rfl) (fun _ _ _ _ _ h => h) ?_
    rw [HW6.out]
    clear HW6
    refine tail_cons (l := ?seg1x) ?hseg1x ?_
    case hseg1x => simp only [pick, List.getElem?_toArray, List.getElem?_cons_succ, List.getElem?_cons_zero]; rfl
    repeat (go_big_quiet_step (fail))
    refine wpQuiet_nil ?_
    refine tail_call (vs := #[.pointer (some ⟨ga, 0, none⟩)]) Try.call12 rfl rfl rfl (R := fun r w' => r = .int .u64 (base : Int) ∧ w' = w6) (HBA.out.mono ?_) B (Nat.le_refl _) ?_
    · rintro e w' ⟨rfl, rfl⟩
      exact ⟨_, rfl, Below.refl _ _, rfl, rfl⟩
    rintro r w7 _ ⟨rfl, rfl⟩
    refine tail_cons (l := ?seg2x) ?hseg2x ?_
    case hseg2x => rfl
    refine wpQuiet_nil ?_
    simp only [Act.put, List.setIfInBounds_toArray, List.set_cons_zero, List.set_cons_succ]
    refine tail_call (vs := #[.pointer (some ⟨ga, 0, none⟩)]) Try.call10 rfl rfl rfl (R := fun r w' => r = .int .i64 (bs.length : Int) ∧ w' = w7) (HLE.out.mono ?_) B (Nat.le_refl _) ?_
    · rintro e w' ⟨rfl, rfl⟩
      exact ⟨_, rfl, Below.refl _ _, rfl, rfl⟩
    rintro r w8 _ ⟨rfl, rfl⟩
    refine tail_cons (l := ?seg3x) ?hseg3x ?_
    case hseg3x => rfl
    refine wpQuiet_nil ?_
    simp only [Act.put, List.setIfInBounds_toArray, List.set_cons_zero, List.set_cons_succ]
    refine tail_val2 (some 56) (w1 := w8) (v := .int .i64 (bs.length : Int)) rfl rfl rfl (max_run rfl (bs.length : Int) 0 _ rfl rfl (by split <;> omega)) (Below.refl _ _) ⟨B, Nat.le_refl _, ?_⟩
    refine tail_cons (l := ?seg4x) ?hseg4x ?_
    case hseg4x => rfl
    refine wpQuiet_nil ?_
    simp only [Act.put, List.setIfInBounds_toArray, List.set_cons_zero, List.set_cons_succ]
    refine tail_val2 (some 57) (w1 := w8) (v := .int .i64 (m9 : Int)) rfl rfl rfl (min_run rfl (bs.length : Int) 9 _ rfl rfl HM9.out) (Below.refl _ _) ⟨B, Nat.le_refl _, ?_⟩
    refine tail_cons (l := ?seg5x) ?hseg5x ?_
    case hseg5x => simp only [pick, List.getElem?_toArray, List.getElem?_cons_succ, List.getElem?_cons_zero]; rfl
    simp only [Act.put, List.setIfInBounds_toArray, List.set_cons_zero, List.set_cons_succ]
    have ew : IntKind.u64.wrap (m9 : Int) = (m9 : Int) := IntWalk.u64_in _ (by omega)
    repeat (go_big_quiet_step (fail))
    refine wpQuiet_nil ?_
    clear ew
    refine tail_call2 (vs := #[.pointer (some ⟨ga, 0, none⟩), .int .u64 (base : Int), .int .u64 (m9 : Int), .int .u8 7]) Try.call44 rfl rfl rfl (R := fun r w' => r = .nilIface ∧ Became 69 ga base cap A (lay bs 0 (List.replicate m9 7)) w8 w') (HFI.out.mono ?_) ?_
    · rintro e w' ⟨rfl, hbe⟩
      exact ⟨_, rfl, (H6.out.mid hbe HS6.out).2.1, rfl, hbe⟩
    rintro r w9 b9 ⟨rfl, hbe⟩
    refine ⟨w9.heap.size, Nat.le_trans HS6.out b9.size, ?_⟩
    obtain ⟨hm9, hb9, hs9⟩ := H6.out.mid hbe HS6.out
    have ao9 : Ar w9 69 go base cap Ao co bs := by
      obtain ⟨_, _, _, t, _⟩ := hbe
      refine AO6.out.tch t fun j hj hj' => ?_
      have h1 := H4.out.a.foot_lt hj'
      rcases hj with rfl | ⟨a, ea, rfl⟩
      · have := HGO.out; omega
      · have := HAO.out a ea; omega
    have HBE := Lib.hid (hbe.after HB46.out)
    have HBY := Lib.hid (bytes_any ao9 hl1 hbase)
    have AO9 := Lib.hid ao9
    have M9 := Lib.hid hm9
    clear hbe hb9 hs9 hm9 ao9 AO6 HB46 HFI HBA HLE b9
    have t2 : ∀ z : LaterB w9.heap.size w9, z.val.cell? ⟨gm, 2, none⟩ = some (.slice M bs.length cm) := fun z => (z.ext.cell (p := ⟨gm, 2, none⟩) M9.out.lt).trans M9.out.c2
    have tm := conv_B9 M9.out.reads
    refine tail_cons (l := ?seg6x) ?hseg6x ?_
    case hseg6x => simp only [pick, List.getElem?_toArray, List.getElem?_cons_succ, List.getElem?_cons_zero]; rfl
    simp only [Act.put, List.setIfInBounds_toArray, List.set_cons_zero, List.set_cons_succ]
    repeat (go_big_quiet_step (fail))
    refine wpQuiet_nil ?_
    clear t2 tm
    refine tail_call2 (vs := #[.pointer (some ⟨go, 0, none⟩)]) Try.call13 rfl rfl rfl (R := fun r w' => ∃ A c, r = .slice A bs.length c ∧ Rd w' w'.heap.size A bs.length bs ∧ Below w9.heap.size w9 w') (HBY.out.mono ?_) ?_
    · rintro e w' ⟨A', c', rfl, ho, hb⟩
      exact ⟨_, rfl, hb, A', c', rfl, Rd.own ho, hb⟩
    rintro r w10 _ ⟨A10, c10, rfl, r10, b10⟩
    refine ⟨w10.heap.size, b10.size, ?_⟩
    have ta := conv_B9 r10
    have t0 : ∀ z : LaterB w10.heap.size w10, z.val.cell? ⟨gm, 0, none⟩ = some (.int .u64 (base : Int)) := fun z => (z.ext.cell (p := ⟨gm, 0, none⟩) (M9.out.below b10).lt).trans (M9.out.below b10).c0
    refine tail_cons (l := ?seg7x) ?hseg7x ?_
    case hseg7x => simp only [pick, List.getElem?_toArray, List.getElem?_cons_succ, List.getElem?_cons_zero]; rfl
    simp only [Act.put, List.setIfInBounds_toArray, List.set_cons_zero, List.set_cons_succ]
    repeat (go_big_quiet_step (fail))
    refine wpQuiet_nil ?_
    clear ta t0
    refine tail_call (vs := #[.pointer (some ⟨go, 0, none⟩)]) Try.call12 rfl rfl rfl (R := fun r w' => r = .int .u64 (base : Int) ∧ w' = w10) ((base_any (AO9.out.below b10)).mono ?_) w10.heap.size (Nat.le_refl _) ?_
    · rintro e w' ⟨rfl, rfl⟩
      exact ⟨_, rfl, Below.refl _ _, rfl, rfl⟩
    rintro r w11 _ ⟨rfl, rfl⟩
    have t1 : ∀ z : LaterB w11.heap.size w11, z.val.cell? ⟨gm, 1, none⟩ = some (.int .i64 (cap : Int)) := fun z => (z.ext.cell (p := ⟨gm, 1, none⟩) (M9.out.below b10).lt).trans (M9.out.below b10).c1
    refine tail_cons (l := ?seg8x) ?hseg8x ?_
    case hseg8x => simp only [pick, List.getElem?_toArray, List.getElem?_cons_succ, List.getElem?_cons_zero]; rfl
    simp only [Act.put, List.setIfInBounds_toArray, List.set_cons_zero, List.set_cons_succ]
    repeat (go_big_quiet_step (fail))
    refine wpQuiet_nil ?_
    clear t1
    refine tail_call (vs := #[.pointer (some ⟨go, 0, none⟩)]) Try.call11 rfl rfl rfl (R := fun r w' => r = .int .i64 (cap : Int) ∧ w' = w11) ((cap_any (AO9.out.below b10)).mono ?_) w11.heap.size (Nat.le_refl _) ?_
    · rintro e w' ⟨rfl, rfl⟩
      exact ⟨_, rfl, Below.refl _ _, rfl, rfl⟩
    rintro r w12 _ ⟨rfl, rfl⟩
    refine tail_last (l := ?la9x) (t := []) ?hla9x ?htl9x ?_
    case hla9x => simp only [pick, List.getElem?_toArray, List.getElem?_cons_succ, List.getElem?_cons_zero]; rfl
    case htl9x => rfl
    simp only [Act.put, List.setIfInBounds_toArray, List.set_cons_zero, List.set_cons_succ]
    repeat (go_big_quiet_step (fail))
    refine wpQuiet_nil ?_
    have M12 := Lib.hid (M9.out.below b10)
    have HB12 := Lib.hid b10
    clear r10 b10 AO9 M9 HBY
    go_wp2
    go_loopw [20] (fun i wr => ∃ j : Nat, j ≤ m9 ∧ i = .int .i64 j ∧ Ar wr 31 gm base cap M cm (lay bs 0 (List.replicate j 7)) ∧ Tch (foot gm M) w12 wr) (fun i _ => m9 - (intOf i).toNat)
    case atStart => exact ⟨0, Nat.zero_le _, rfl, by rw [List.replicate_zero, lay_nil]; exact M12.out, Tch.refl _ _⟩
    case round =>
      obtain ⟨j, hj, rfl, ha, ht⟩ := hrel
      have hlen := lay_length bs 0 (List.replicate j 7) (by simp; omega)
      have c2 := ha.c2
      rw [hlen] at c2
      by_cases hlt : j < m9
      · have hjb : j < bs.length := by omega
        have hj9 : j < 9 := by omega
        rcases M with _ | ad
        · have := M12.out.none_.1
          rw [this, List.length_nil] at hjb
          omega
        · obtain ⟨h', rfl, _, _, _, hcm, _⟩ := M12.out.row rfl
          unfold maxLen at hcm
          obtain ⟨u, q1, q2⟩ := ha.byte rfl j (by omega)
          obtain ⟨p1, p2⟩ := ha.put1 (by decide) rfl j 7
          have hst := lay_step (bs := bs) 0 j 7 (by omega)
          rw [Nat.zero_add] at hst
          rw [hst] at p1
          have P1 := Lib.hid p1
          have P2 := Lib.hid (ht.trans p2 (fun _ _ h => h))
          clear p1 p2 hlen hst ha ht
          go_wp2
          go_roundw
          case rel => exact ⟨j + 1, by omega, by go_num, P1.out, P2.out⟩
          case measure => simp [intOf]; omega
      · obtain rfl : j = m9 := by omega
        have HE := Lib.hid (DoneE.step H4.out HB4.out HS4.out (by rw [hlen]; exact hlc) hcap HBE.out ((show Became 31 gm base cap M _ w12 wr from ⟨M, cm, ha, ht, .inl rfl⟩).after HB12.out))
        have qn := QN.out
        clear ha ht hlen
        rcases hm9c with hm | hm
        · have hnl : ¬ j < bs.length := by omega
          go_wp2
          go_ret
          exact HE.out
        · by_cases hjb : j < bs.length
          · have hn9 : ¬ j < 9 := by omega
            go_wp2
            go_ret
            exact HE.out
          · go_wp2
            go_ret
            exact HE.out
  · clear d4 d5 d6
    have HG := Lib.hid (clone_any H4.out.a hl1)
    go_wp2_with fail
    with_reducible refine HG.out.mono ?_
    rintro e w5 ⟨go, Ao, co, rfl, ao, b5, hgo, hAo⟩
    obtain ⟨w6, hw6⟩ : ∃ w6, w5.drew = w6 := ⟨_, rfl⟩
    have h6 : Pr B w6 ga gm base cap A ca M cm bs := by rw [← hw6]; exact (H4.out.below b5).below (Below.refl _ _).drew
    have ao6 : Ar w6 69 go base cap Ao co bs := by rw [← hw6]; exact ao.drew
    have b46 : Below w4.heap.size w4 w6 := by rw [← hw6]; exact b5.drew
    obtain ⟨m9, hm9⟩ : ∃ m9, min bs.length 9 = m9 := ⟨_, rfl⟩
    have hm9a : m9 ≤ bs.length := by omega
    have hm9b : m9 ≤ 9 := by omega
    have hm9c : m9 = bs.length ∨ m9 = 9 := by omega
    have hfi := fill_ok h6.a hl1 base m9 0 7 (by omega) (Nat.le_refl _) (by omega) (by omega)
    have HFI := Lib.hid hfi
    have HBA := Lib.hid (base_any h6.a)
    have HLE := Lib.hid (len_any h6.a)
    have H6 := Lib.hid h6
    have AO6 := Lib.hid ao6
    have HB46 := Lib.hid b46
    have HW6 := Lib.hid hw6
    have HGO := Lib.hid hgo
    have HAO := Lib.hid hAo
    have HM9 : Hid ((if (9 : Int) < (bs.length : Int) then 9 else (bs.length : Int)) = (m9 : Int)) := (show _ = _ by split <;> omega)
    have hs6 : B ≤ w6.heap.size := Nat.le_trans HS4.out b46.size
    have HS6 := Lib.hid hs6
    clear hfi h6 ao6 b46 hw6 hgo hAo ao b5 hm9 hs6 HG
    go_wp2_with fail
    refine wp_region_tail B [([0, 1, 3], 2), ([], 4), ([], 5), ([], 6), ([7], 8), ([9, 10, 11, 14, 15, 16, 17, 18], 12), ([13, 19, 20, 21, 22, 24, 25, 26, 27], 23), ([28, 29, 30, 31, 33, 34, 35, 36], 32)] [37, 38] [] (by kernel_rfl) (by kernel_rfl) (by kernel_rfl) (fun _ _ _ _ _ h => h) ?_
    rw [HW6.out]
    clear HW6
    refine tail_cons (l := ?seg1y) ?hseg1y ?_
    case hseg1y => simp only [pick, List.getElem?_toArray, List.getElem?_cons_succ, List.getElem?_cons_zero]; rfl
    repeat (go_big_quiet_step (fail))
    refine wpQuiet_nil ?_
    refine tail_call (vs := #[.pointer (some ⟨ga, 0, none⟩)]) Try.call12 rfl rfl rfl (R := fun r w' => r = .int .u64 (base : Int) ∧ w' = w6) (HBA.out.mono ?_) B (Nat.le_refl _) ?_
    · rintro e w' ⟨rfl, rfl⟩
      exact ⟨_, rfl, Below.refl _ _, rfl, rfl⟩
    rintro r w7 _ ⟨rfl, rfl⟩
    refine tail_cons (l := ?seg2y) ?hseg2y ?_
    case hseg2y => rfl
    refine wpQuiet_nil ?_
    simp only [Act.put, List.setIfInBounds_toArray, List.set_cons_zero, List.set_cons_succ]
    refine tail_call (vs := #[.pointer (some ⟨ga, 0, none⟩)]) Try.call10 rfl rfl rfl (R := fun r w' => r = .int .i64 (bs.length : Int) ∧ w' = w7) (HLE.out.mono ?_) B (Nat.le_refl _) ?_
    · rintro e w' ⟨rfl, rfl⟩
      exact ⟨_, rfl, Below.refl _ _, rfl, rfl⟩
    rintro r w8 _ ⟨rfl, rfl⟩
    refine tail_cons (l := ?seg3y) ?hseg3y ?_
    case hseg3y => rfl
    refine wpQuiet_nil ?_
    simp only [Act.put, List.setIfInBounds_toArray, List.set_cons_zero, List.set_cons_succ]
    refine tail_val2 (some 56) (w1 := w8) (v := .int .i64 (bs.length : Int)) rfl rfl rfl (max_run rfl (bs.length : Int) 0 _ rfl rfl (by split <;> omega)) (Below.refl _ _) ⟨B, Nat.le_refl _, ?_⟩
    refine tail_cons (l := ?seg4y) ?hseg4y ?_
    case hseg4y => rfl
    refine wpQuiet_nil ?_
    simp only [Act.put, List.setIfInBounds_toArray, List.set_cons_zero, List.set_cons_succ]
    refine tail_val2 (some 57) (w1 := w8) (v := .int .i64 (m9 : Int)) rfl rfl rfl (min_run rfl (bs.length : Int) 9 _ rfl rfl HM9.out) (Below.refl _ _) ⟨B, Nat.le_refl _, ?_⟩
    refine tail_cons (l := ?seg5y) ?hseg5y ?_
    case hseg5y => simp only [pick, List.getElem?_toArray, List.getElem?_cons_succ, List.getElem?_cons_zero]; rfl
    simp only [Act.put, List.setIfInBounds_toArray, List.set_cons_zero, List.set_cons_succ]
    have ew : IntKind.u64.wrap (m9 : Int) = (m9 : Int) := IntWalk.u64_in _ (by omega)
    repeat (go_big_quiet_step (fail))
    refine wpQuiet_nil ?_
    clear ew
    refine tail_call2 (vs := #[.pointer (some ⟨ga, 0, none⟩), .int .u64 (base : Int), .int .u64 (m9 : Int), .int .u8 7]) Try.call44 rfl rfl rfl (R := fun r w' => r = .nilIface ∧ Became 69 ga base cap A (lay bs 0 (List.replicate m9 7)) w8 w') (HFI.out.mono ?_) ?_
    · rintro e w' ⟨rfl, hbe⟩
      exact ⟨_, rfl, (H6.out.mid hbe HS6.out).2.1, rfl, hbe⟩
    rintro r w9 b9 ⟨rfl, hbe⟩
    refine ⟨w9.heap.size, Nat.le_trans HS6.out b9.size, ?_⟩
    obtain ⟨hm9, hb9, hs9⟩ := H6.out.mid hbe HS6.out
    have ao9 : Ar w9 69 go base cap Ao co bs := by
      obtain ⟨_, _, _, t, _⟩ := hbe
      refine AO6.out.tch t fun j hj hj' => ?_
      have h1 := H4.out.a.foot_lt hj'
      rcases hj with rfl | ⟨a, ea, rfl⟩
      · have := HGO.out; omega
      · have := HAO.out a ea; omega
    have HBE := Lib.hid (hbe.after HB46.out)
    have HBY := Lib.hid (bytes_any ao9 hl1 hbase)
    have AO9 := Lib.hid ao9
    have M9 := Lib.hid hm9
    clear hbe hb9 hs9 hm9 ao9 AO6 HB46 HFI HBA HLE b9
    have t2 : ∀ z : LaterB w9.heap.size w9, z.val.cell? ⟨gm, 2, none⟩ = some (.slice M bs.length cm) := fun z => (z.ext.cell (p := ⟨gm, 2, none⟩) M9.out.lt).trans M9.out.c2
    have tm := conv_B9 M9.out.reads
    refine tail_cons (l := ?seg6y) ?hseg6y ?_
    case hseg6y => simp only [pick, List.getElem?_toArray, List.getElem?_cons_succ, List.getElem?_cons_zero]; rfl
    simp only [Act.put, List.setIfInBounds_toArray, List.set_cons_zero, List.set_cons_succ]
    repeat (go_big_quiet_step (fail))
    refine wpQuiet_nil ?_
    clear t2 tm
    refine tail_call2 (vs := #[.pointer (some ⟨go, 0, none⟩)]) Try.call13 rfl rfl rfl (R := fun r w' => ∃ A c, r = .slice A bs.length c ∧ Rd w' w'.heap.size A bs.length bs ∧ Below w9.heap.size w9 w') (HBY.out.mono ?_) ?_
    · rintro e w' ⟨A', c', rfl, ho, hb⟩
      exact ⟨_, rfl, hb, A', c', rfl, Rd.own ho, hb⟩
    rintro r w10 _ ⟨A10, c10, rfl, r10, b10⟩
    refine ⟨w10.heap.size, b10.size, ?_⟩
    have ta := conv_B9 r10
    have t0 : ∀ z : LaterB w10.heap.size w10, z.val.cell? ⟨gm, 0, none⟩ = some (.int .u64 (base : Int)) := fun z => (z.ext.cell (p := ⟨gm, 0, none⟩) (M9.out.below b10).lt).trans (M9.out.below b10).c0
    refine tail_cons (l := ?seg7y) ?hseg7y ?_
    case hseg7y => simp only [pick, List.getElem?_toArray, List.getElem?_cons_succ, List.getElem?_cons_zero]; rfl
    simp only [Act.put, List.setIfInBounds_toArray, List.set_cons_zero, List.set_cons_succ]
    repeat (go_big_quiet_step (fail))
    refine wpQuiet_nil ?_
    clear ta t0
    refine tail_call (vs := #[.pointer (some ⟨go, 0, none⟩)]) Try.call12 rfl rfl rfl (R := fun r w' => r = .int .u64 (base : Int) ∧ w' = w10) ((base_any (AO9.out.below b10)).mono ?_) w10.heap.size (Nat.le_refl _) ?_
    · rintro e w' ⟨rfl, rfl⟩
      exact ⟨_, rfl, Below.refl _ _, rfl, rfl⟩
    rintro r w11 _ ⟨rfl, rfl⟩
    have t1 : ∀ z : LaterB w11.heap.size w11, z.val.cell? ⟨gm, 1, none⟩ = some (.int .i64 (cap : Int)) := fun z => (z.ext.cell (p := ⟨gm, 1, none⟩) (M9.out.below b10).lt).trans (M9.out.below b10).c1
    refine tail_cons (l := ?seg8y) ?hseg8y ?_
    case hseg8y => simp only [pick, List.getElem?_toArray, List.getElem?_cons_succ, List.getElem?_cons_zero]; rfl
    simp only [Act.put, List.setIfInBounds_toArray, List.set_cons_zero, List.set_cons_succ]
    repeat (go_big_quiet_step (fail))
    refine wpQuiet_nil ?_
    clear t1
    refine tail_call (vs := #[.pointer (some ⟨go, 0, none⟩)]) Try.call11 rfl rfl rfl (R := fun r w' => r = .int .i64 (cap : Int) ∧ w' = w11) ((cap_any (AO9.out.below b10)).mono ?_) w11.heap.size (Nat.le_refl _) ?_
    · rintro e w' ⟨rfl, rfl⟩
      exact ⟨_, rfl, Below.refl _ _, rfl, rfl⟩
    rintro r w12 _ ⟨rfl, rfl⟩
    refine tail_last (l := ?la9y) (t := []) ?hla9y ?htl9y ?_
    case hla9y => simp only [pick, List.getElem?_toArray, List.getElem?_cons_succ, List.getElem?_cons_zero]; rfl
    case htl9y => rfl
    simp only [Act.put, List.setIfInBounds_toArray, List.set_cons_zero, List.set_cons_succ]
    repeat (go_big_quiet_step (fail))
    refine wpQuiet_nil ?_
    have M12 := Lib.hid (M9.out.below b10)
    have HB12 := Lib.hid b10
    clear r10 b10 AO9 M9 HBY
    go_wp2
    go_loopw [20] (fun i wr => ∃ j : Nat, j ≤ m9 ∧ i = .int .i64 j ∧ Ar wr 31 gm base cap M cm (lay bs 0 (List.replicate j 7)) ∧ Tch (foot gm M) w12 wr) (fun i _ => m9 - (intOf i).toNat)
    case atStart => exact ⟨0, Nat.zero_le _, rfl, by rw [List.replicate_zero, lay_nil]; exact M12.out, Tch.refl _ _⟩
    case round =>
      obtain ⟨j, hj, rfl, ha, ht⟩ := hrel
      have hlen := lay_length bs 0 (List.replicate j 7) (by simp; omega)
      have c2 := ha.c2
      rw [hlen] at c2
      by_cases hlt : j < m9
      · have hjb : j < bs.length := by omega
        have hj9 : j < 9 := by omega
        rcases M with _ | ad
        · have := M12.out.none_.1
          rw [this, List.length_nil] at hjb
          omega
        · obtain ⟨h', rfl, _, _, _, hcm, _⟩ := M12.out.row rfl
          unfold maxLen at hcm
          obtain ⟨u, q1, q2⟩ := ha.byte rfl j (by omega)
          obtain ⟨p1, p2⟩ := ha.put1 (by decide) rfl j 7
          have hst := lay_step (bs := bs) 0 j 7 (by omega)
          rw [Nat.zero_add] at hst
          rw [hst] at p1
          have P1 := Lib.hid p1
          have P2 := Lib.hid (ht.trans p2 (fun _ _ h => h))
          clear p1 p2 hlen hst ha ht
          go_wp2
          go_roundw
          case rel => exact ⟨j + 1, by omega, by go_num, P1.out, P2.out⟩
          case measure => simp [intOf]; omega
      · obtain rfl : j = m9 := by omega
        have HE := Lib.hid (DoneE.step H4.out HB4.out HS4.out (by rw [hlen]; exact hlc) hcap HBE.out ((show Became 31 gm base cap M _ w12 wr from ⟨M, cm, ha, ht, .inl rfl⟩).after HB12.out))
        have qn := QN.out
        clear ha ht hlen
        rcases hm9c with hm | hm
        · have hnl : ¬ j < bs.length := by omega
          go_wp2
          go_ret
          exact HE.out
        · by_cases hjb : j < bs.length
          · have hn9 : ¬ j < 9 := by omega
            go_wp2
            go_ret
            exact HE.out
          · go_wp2
            go_ret
            exact HE.out
end Go.Proofs.Ytbalmacabojbpaa
