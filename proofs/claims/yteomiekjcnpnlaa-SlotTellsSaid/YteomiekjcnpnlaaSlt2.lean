/- The document's records: GetRec (genslot2.py). -/
import Derived.Test.YteomiekjcnpnlaaSlt1
import Derived.Test.YteomiekjcnpnlaaNum
import Derived.Test.YteomiekjcnpnlaaConv
import Derived.Test.YteomiekjcnpnlaaImg8
namespace Go.Proofs.Yteomiekjcnpnlaa
open Go.RowKit

def slG (b : List UInt8) : Nat := numB ((b.drop 8).take 8)
def slN (b : List UInt8) : Nat := numB ((b.drop 16).take 8)
def slS (b : List UInt8) : Nat := numB ((b.drop 24).take 4)
def slOk (g n : Nat) : Bool := decide (1 ≤ g) && (decide (g ≤ 4611686018427387904) && decide (n ≤ 65536))
/-- The bytes of a record, none if it is none. -/
def slOf (g n s : Nat) : List UInt8 := if slOk g n = true then slPut g n s else []
theorem rputrec_any (w : World) (g n s : Nat) (hg : g < 18446744073709551616) (hn : n < 18446744073709551616) (hs : s < 4294967296) :
    Calls Try.prog 9 #[.agg #[.int .u64 (g : Int), .int .u64 (n : Int), .int .u32 (s : Int)]] w fun e w' => ∃ A m c, e = .returned (.slice A m c) ∧ (A = none → c = 0) ∧ Rd w' w'.heap.size A m (slOf g n s) ∧ Below w.heap.size w w' := by
  cases h : slOk g n with
  | false =>
    have hno : g < 1 ∨ 4611686018427387904 < g ∨ 65536 < n := by
      unfold slOk at h
      simp only [Bool.and_eq_false_iff, decide_eq_false_iff_not] at h
      omega
    refine (rputrec_no w g n s hg hn hs hno).mono ?_
    rintro e w' ⟨rfl, hb⟩
    refine ⟨none, 0, 0, rfl, fun _ => rfl, ?_, hb⟩
    unfold slOf
    rw [if_neg (by rw [h]; simp)]
    exact Rd.nil_
  | true =>
    unfold slOk at h
    simp only [Bool.and_eq_true, decide_eq_true_eq] at h
    refine (rputrec_ok w g n s hs h.1 h.2.1 h.2.2).mono ?_
    rintro e w' ⟨A, c, rfl, hA, ho, hb⟩
    refine ⟨A, 512, c, rfl, hA, ?_, hb⟩
    unfold slOf
    rw [if_pos (by unfold slOk; simp [h])]
    exact own_reads ho
theorem rec_ret {fn : Func} {R : Ending → World → Prop} {a : Act} {w : World} {p u : Tmp} {g : Nat} {x y0 y1 y2 : Value} (hres : fn.results = #[.cell p 30, .tmp u]) (hp : a.tmps.getD p undef = .pointer (some ⟨g, 0, none⟩)) (hx : a.tmps.getD u undef = x) (hd : a.defers = [])
    (hg : w.heap[g]? = some (.cells #[y0, y1, y2] 30 (0, 0))) (_h0 : y0.oneCell' = true) (_h1 : y1.oneCell' = true) (_h2 : y2.oneCell' = true) (hR : R (.returned (.tuple #[.agg #[y0, y1, y2], x])) w) : bodyPost Try.prog fn R .ret a w := by
  obtain ⟨c0, c1, c2⟩ := rk_cells hg
  refine bodyPost_ret (v := .tuple #[.agg #[y0, y1, y2], x]) ?_ hd hR
  rw [results_cell_tmp hres, hp, hx]
  simp [go_sem, c0, c1, c2]
theorem alloc_rec (ρ : Operand → Value) (o : Oper) (ho : o.op = .alloc 30) (w : World) :
    (execOp ρ o).run Try.prog w = .ok (.value (.pointer (some ⟨w.heap.size, 0, none⟩))) (w.alloc (.cells #[.int .u64 0, .int .u64 0, .int .u32 0] 30)) := by
  unfold execOp
  simp only [ho]
  simp [go_sem]
set_option maxRecDepth 100000 in
set_option maxHeartbeats 2000000 in
theorem rgetrec_len (w : World) (A : Option Addr) (n c : Nat) (hn : n ≠ 512) (_hl : n ≤ 900000) :
    Calls Try.prog 7 #[.slice A n c] w fun e w' => e = .returned (.tuple #[.agg #[.int .u64 0, .int .u64 0, .int .u32 0], .bool false]) ∧ Below w.heap.size w w' := by
  obtain ⟨w1, hw1⟩ : ∃ w1, w.alloc (.cells #[.int .u64 0, .int .u64 0, .int .u32 0] 30) = w1 := ⟨_, rfl⟩
  have hb1 : Below w.heap.size w w1 := by rw [← hw1]; exact (Below.refl _ _).alloc (Nat.le_refl _) _
  have n1 : w1.heap[w.heap.size]? = some (.cells #[.int .u64 0, .int .u64 0, .int .u32 0] 30 (0, 0)) := by rw [← hw1]; exact heap_alloc_new w _
  obtain ⟨z0, z1, z2⟩ := rk_cells n1
  obtain ⟨f0, f1, f2⟩ := im_thaw n1
  have hl1 := heap_lt1 n1
  have g1 : (n != 512) = true := by rw [bne_iff_ne]; exact hn
  have g2 : ((n : Int) != 512) = true := by rw [bne_iff_ne]; omega
  have HW1 := Lib.hid hw1
  have HM := Lib.hid (im_set n1 (.int .u64 0) (.int .u64 0) (.int .u32 0))
  have HF := Lib.hid (((hb1.setCell (p := ⟨w.heap.size, 0, none⟩) (Nat.le_refl _) (.int .u64 0)).setCell (p := ⟨w.heap.size, 1, none⟩) (Nat.le_refl _) (.int .u64 0)).setCell (p := ⟨w.heap.size, 2, none⟩) (Nat.le_refl _) (.int .u32 0))
  clear hw1 hb1 n1
  go_enter Try.func7, Try.ntmps7
  go_wp2_with (first | (rw [HW1.out]) | fail)
  (try simp only [Exit.inBlock, Exit.then])
  refine rec_ret (g := w.heap.size) (x := .bool false) Try.results7 ?_ ?_ ?_ HM.out rfl rfl rfl ?_
  · rfl
  · rfl
  · rfl
  · exact ⟨rfl, HF.out⟩
set_option maxRecDepth 100000 in
set_option maxHeartbeats 8000000 in
theorem rgetrec_512 (w : World) (A : Option Addr) (c : Nat) (b : List UInt8) (hr : Rd w w.heap.size A 512 b) (hc : 512 ≤ c) (hc2 : c ≤ 9223372036854775807) (G N S : Nat) (hG : slG b = G) (hN : slN b = N) (hS : slS b = S) (y : Bool) (hy : decide (slOf G N S ≠ b) = y) :
    Calls Try.prog 7 #[.slice A 512 c] w fun e w' => e = .returned (.tuple #[.agg #[.int .u64 (if y = true then 0 else (G : Int)), .int .u64 (if y = true then 0 else (N : Int)), .int .u32 (if y = true then 0 else (S : Int))], .bool (!y)]) ∧ Below w.heap.size w w' := by
  obtain ⟨g, off, rfl, _⟩ := hr.2 (by omega)
  obtain ⟨w1, hw1⟩ : ∃ w1, w.alloc (.cells #[.int .u64 0, .int .u64 0, .int .u32 0] 30) = w1 := ⟨_, rfl⟩
  have hb1 : Below w.heap.size w w1 := by rw [← hw1]; exact (Below.refl _ _).alloc (Nat.le_refl _) _
  have n1 : w1.heap[w.heap.size]? = some (.cells #[.int .u64 0, .int .u64 0, .int .u32 0] 30 (0, 0)) := by rw [← hw1]; exact heap_alloc_new w _
  obtain ⟨wd, hwd⟩ : ∃ wd, w1.drew = wd := ⟨_, rfl⟩
  have hbd : Below w1.heap.size w1 wd := by rw [← hwd]; exact (Below.refl _ _).drew
  have nd := (hbd.block _ (heap_lt1 n1)).trans n1
  have hBd := hb1.trans (hbd.mono hb1.size)
  have hlr := heap_lt1 nd
  obtain ⟨w3, hw3⟩ : ∃ w3, wd.alloc (.cells #[.int .u64 0, .int .u64 0, .int .u32 0] 30) = w3 := ⟨_, rfl⟩
  have hb3 : Below wd.heap.size wd w3 := by rw [← hw3]; exact (Below.refl _ _).alloc (Nat.le_refl _) _
  have n3 : w3.heap[wd.heap.size]? = some (.cells #[.int .u64 0, .int .u64 0, .int .u32 0] 30 (0, 0)) := by rw [← hw3]; exact heap_alloc_new wd _
  obtain ⟨w5, hw5⟩ : ∃ w5, (((w3.setCell ⟨wd.heap.size, 0, none⟩ (.int .u64 (G : Int))).setCell ⟨wd.heap.size, 1, none⟩ (.int .u64 (N : Int))).setCell ⟨wd.heap.size, 2, none⟩ (.int .u32 (S : Int))) = w5 := ⟨_, rfl⟩
  have n5 : w5.heap[wd.heap.size]? = some (.cells #[.int .u64 (G : Int), .int .u64 (N : Int), .int .u32 (S : Int)] 30 (0, 0)) := by rw [← hw5]; exact im_set n3 _ _ _
  have hb5 : Below wd.heap.size wd w5 := by rw [← hw5]; exact ((hb3.setCell (p := ⟨wd.heap.size, 0, none⟩) (Nat.le_refl _) _).setCell (p := ⟨wd.heap.size, 1, none⟩) (Nat.le_refl _) _).setCell (p := ⟨wd.heap.size, 2, none⟩) (Nat.le_refl _) _
  obtain ⟨we, hwe⟩ : ∃ we, w5.drew = we := ⟨_, rfl⟩
  have hbe : Below w5.heap.size w5 we := by rw [← hwe]; exact (Below.refl _ _).drew
  have hbde := hb5.trans (hbe.mono hb5.size)
  have HNE := Lib.hid ((hbe.block _ (heap_lt1 n5)).trans n5)
  have HNR := Lib.hid ((hbde.block _ hlr).trans nd)
  have HBE := Lib.hid (hBd.trans (hbde.mono hBd.size))
  have HRE := Lib.hid ((hr.below HBE.out).more HBE.out.size)
  have HBwd := Lib.hid hBd
  have HBw3 := Lib.hid (hBd.trans (hb3.mono hBd.size))
  have HBA := Lib.hid hb3
  have HN3 := Lib.hid n3
  have HW1 := Lib.hid hw1
  have HWD := Lib.hid hwd
  have HW3 := Lib.hid hw3
  have HW5 := Lib.hid hw5
  have HWE := Lib.hid hwe
  have HNA := Lib.hid (fun V (hV : Below w.heap.size w V) => refNum_any (some ⟨g, off + 8, none⟩) 8 (c - 8) w.heap.size ((b.drop 8).take 8) V ((hr.sub 8 8 (by omega)).below hV) (Nat.le_refl _))
  have HNB := Lib.hid (fun V (hV : Below w.heap.size w V) => refNum_any (some ⟨g, off + 16, none⟩) 8 (c - 16) w.heap.size ((b.drop 16).take 8) V ((hr.sub 16 8 (by omega)).below hV) (Nat.le_refl _))
  have HNC := Lib.hid (fun V (hV : Below w.heap.size w V) => refNum_any (some ⟨g, off + 24, none⟩) 4 (c - 24) w.heap.size ((b.drop 24).take 4) V ((hr.sub 24 4 (by omega)).below hV) (by omega))
  have hGl : G < 18446744073709551616 := by rw [← hG]; exact numB_lt64 _ (List.length_take_le _ _)
  have hNl : N < 18446744073709551616 := by rw [← hN]; exact numB_lt64 _ (List.length_take_le _ _)
  have hSl : S < 4294967296 := by
    have h := numB_lt ((b.drop 24).take 4)
    have e : ((b.drop 24).take 4).length = 4 := by rw [List.length_take, List.length_drop, hr.1]; rfl
    rw [e] at h
    rw [← hS]; exact h
  unfold slG at hG
  unfold slN at hN
  unfold slS at hS
  rw [hG] at HNA
  rw [hN] at HNB
  rw [hS] at HNC
  have HPUT := Lib.hid (fun V => rputrec_any V G N S hGl hNl hSl)
  obtain ⟨P, hP⟩ : ∃ P, slOf G N S = P := ⟨_, rfl⟩
  rw [hP] at hy HPUT
  obtain ⟨T, hT⟩ : ∃ T, strB b = T := ⟨_, rfl⟩
  obtain ⟨U, hU⟩ : ∃ U, strB P = U := ⟨_, rfl⟩
  have gy : (U.toList != T.toList) = y := by
    rw [← hT, ← hU, ← hy]
    by_cases e : P = b
    · subst e; simp
    · have h1 : (strB P).toList ≠ (strB b).toList := fun h => e (by
        have h2 := congrArg List.length h
        simpa [strB, ByteArray.toList_eq] using h)
      rw [decide_eq_true e, bne_iff_ne]; exact h1
  have gy2 : (!(U.toList == T.toList)) = y := gy
  have HT := Lib.hid hT
  have HU := Lib.hid hU
  have g0 : (512 != 512) = false := rfl
  have g3 : (8 : Int) ≤ (c : Int) := by omega
  have g4 : (16 : Int) ≤ (c : Int) := by omega
  have g5 : (24 : Int) ≤ (c : Int) := by omega
  have g6 : (28 : Int) ≤ (c : Int) := by omega
  clear hr hw1 hb1 n1 hwd hbd nd hBd hT hU hP hy hw3 hb3 n3 hw5 n5 hb5 hwe hbe hbde hG hN hS
  go_enter Try.func7, Try.ntmps7
  go_wp2_with (first | (rw [HW1.out]) | fail)
  refine wp_region_plan wd.heap.size (.two [0, 1, 3, 4, 6, 7] 2 (.two [] 5 (.two [] 8 (.one [9, 10] 11 (.fin [])) 11 (.one [] 8 (.fin [9, 10]))) 11 (.one [] 5 (.one [] 8 (.fin [9, 10])))) 11 (.one [] 2 (.one [] 5 (.one [] 8 (.fin [9, 10]))))) [12] (by kernel_rfl) (by kernel_rfl) (by kernel_rfl) (fun _ _ _ _ _ h => h) ?_
  rw [HWD.out]
  refine plan_two (l := ?sg0) ?hsg0 ?_
  case hsg0 => simp only [pick, List.getElem?_toArray, List.getElem?_cons_succ, List.getElem?_cons_zero]; rfl
  repeat (go_big_quiet_step (fail))
  refine wpQuiet_nil ?_
  refine ⟨?wayABC, ?wayD⟩
  case wayABC =>
    refine tail_call (vs := #[.slice (some ⟨g, off + 8, none⟩) 8 (c - 8)]) Try.call12 rfl rfl rfl (R := fun r w' => r = .int .u64 (G : Int) ∧ wd = w') ((HNA.out wd HBwd.out).mono ?_) wd.heap.size (Nat.le_refl _) ?_
    · rintro e w' ⟨rfl, rfl⟩
      exact ⟨_, rfl, Below.refl _ _, rfl, rfl⟩
    rintro r w' _ ⟨rfl, rfl⟩
    simp only [Act.put, List.setIfInBounds_toArray, List.set_cons_zero, List.set_cons_succ]
    refine plan_two (l := []) rfl (wpQuiet_nil ?_)
    refine ⟨?wayAB, ?wayC⟩
    case wayAB =>
      refine tail_call (vs := #[.slice (some ⟨g, off + 16, none⟩) 8 (c - 16)]) Try.call12 rfl rfl rfl (R := fun r w' => r = .int .u64 (N : Int) ∧ wd = w') ((HNB.out wd HBwd.out).mono ?_) wd.heap.size (Nat.le_refl _) ?_
      · rintro e w' ⟨rfl, rfl⟩
        exact ⟨_, rfl, Below.refl _ _, rfl, rfl⟩
      rintro r w' _ ⟨rfl, rfl⟩
      simp only [Act.put, List.setIfInBounds_toArray, List.set_cons_zero, List.set_cons_succ]
      refine plan_two (l := []) rfl (wpQuiet_nil ?_)
      refine ⟨?wayA, ?wayB⟩
      case wayA =>
        refine tail_call (vs := #[.slice (some ⟨g, off + 24, none⟩) 4 (c - 24)]) Try.call12 rfl rfl rfl (R := fun r w' => r = .int .u64 (S : Int) ∧ wd = w') ((HNC.out wd HBwd.out).mono ?_) wd.heap.size (Nat.le_refl _) ?_
        · rintro e w' ⟨rfl, rfl⟩
          exact ⟨_, rfl, Below.refl _ _, rfl, rfl⟩
        rintro r w' _ ⟨rfl, rfl⟩
        simp only [Act.put, List.setIfInBounds_toArray, List.set_cons_zero, List.set_cons_succ]
        refine plan_one (l := ?sgA) ?hsgA ?_
        case hsgA => simp only [pick, List.getElem?_toArray, List.getElem?_cons_succ, List.getElem?_cons_zero]; rfl
        repeat (go_big_quiet_step (fail))
        refine wpQuiet_nil ?_
        refine tail_val2 (some 4) (w1 := w3) (v := .pointer (some ⟨wd.heap.size, 0, none⟩)) rfl rfl rfl (by rw [← HW3.out]; exact alloc_rec _ _ rfl wd) HBA.out ⟨wd.heap.size, Nat.le_refl _, ?_⟩
        simp only [Act.put, List.setIfInBounds_toArray, List.set_cons_zero, List.set_cons_succ]
        refine plan_fin (l := ?laA) (t := ?tlA) ?hlaA ?htlA ?_
        case hlaA => simp only [pick]; rfl
        case htlA => simp only [pick, List.getElem?_toArray, List.getElem?_cons_succ, List.getElem?_cons_zero]; rfl
        refine wpQuiet_nil ?_
        obtain ⟨z0, z1, z2⟩ := rk_cells HN3.out
        obtain ⟨f0, f1, f2⟩ := im_thaw HN3.out
        have hlz := heap_lt1 HN3.out
        obtain ⟨r0, r1, r2⟩ := rk_cells HNE.out
        have hle := heap_lt1 HNE.out
        go_wp2_with (first | (rw [HW5.out]) | fail)
        clear z0 z1 z2 f0 f1 f2 hlz
        refine wp_region_tail we.heap.size [([0, 3, 4], 1)] [2, 5] [] (by kernel_rfl) (by kernel_rfl) (by kernel_rfl) (fun _ _ _ _ _ h => h) ?_
        rw [HWE.out]
        have v0 : ∀ z : LaterB we.heap.size we, z.val.cell? ⟨wd.heap.size, 0, none⟩ = some (.int .u64 (G : Int)) := fun z => (z.ext.cell (p := ⟨wd.heap.size, 0, none⟩) hle).trans r0
        have v1 : ∀ z : LaterB we.heap.size we, z.val.cell? ⟨wd.heap.size, 1, none⟩ = some (.int .u64 (N : Int)) := fun z => (z.ext.cell (p := ⟨wd.heap.size, 1, none⟩) hle).trans r1
        have v2 : ∀ z : LaterB we.heap.size we, z.val.cell? ⟨wd.heap.size, 2, none⟩ = some (.int .u32 (S : Int)) := fun z => (z.ext.cell (p := ⟨wd.heap.size, 2, none⟩) hle).trans r2
        have v3 : ∀ z : LaterB we.heap.size we, (convert 24 9 (.slice (some ⟨g, off, none⟩) 512 c)).run Try.prog z.val = .ok (.string T) z.val := fun z => by rw [← HT.out]; exact conv_rd (HRE.out.below z.ext)
        refine tail_cons (l := ?sRA) ?hsRA ?_
        case hsRA => simp only [pick, List.getElem?_toArray, List.getElem?_cons_succ, List.getElem?_cons_zero]; rfl
        repeat (go_big_quiet_step (fail))
        refine wpQuiet_nil ?_
        clear v0 v1 v2 v3
        refine tail_call2 (vs := #[.agg #[.int .u64 (G : Int), .int .u64 (N : Int), .int .u32 (S : Int)]]) Try.call9 rfl rfl rfl (R := fun r w' => ∃ A m c, r = .slice A m c ∧ Rd w' w'.heap.size A m P ∧ Below we.heap.size we w') ((HPUT.out we).mono ?_) ?_
        · rintro e w' ⟨A, m, c, rfl, _, hr, hb⟩
          exact ⟨_, rfl, hb, A, m, c, rfl, hr, hb⟩
        rintro r w6 _ ⟨A6, m6, c6, rfl, hr6, hb6⟩
        refine ⟨w6.heap.size, hb6.size, ?_⟩
        simp only [Act.put, List.setIfInBounds_toArray, List.set_cons_zero, List.set_cons_succ]
        have u6 : ∀ z : LaterB w6.heap.size w6, (convert 24 9 (.slice A6 m6 c6)).run Try.prog z.val = .ok (.string U) z.val := fun z => by rw [← HU.out]; exact conv_rd (hr6.below z.ext)
        refine tail_last (l := ?lEA) (t := []) ?hlEA rfl ?_
        case hlEA => simp only [pick, List.getElem?_toArray, List.getElem?_cons_succ, List.getElem?_cons_zero]; rfl
        repeat (go_big_quiet_step (fail))
        refine wpQuiet_nil ?_
        have e6 := (hb6.block _ (heap_lt1 HNE.out)).trans HNE.out
        have e7 := (hb6.block _ (heap_lt1 HNR.out)).trans HNR.out
        have HB6 := Lib.hid (HBE.out.trans (hb6.mono HBE.out.size))
        clear u6 hr6 hb6 r0 r1 r2 hle
        obtain ⟨r0, r1, r2⟩ := rk_cells e6
        have hle := heap_lt1 e6
        obtain ⟨q0, q1, q2⟩ := rk_cells e7
        obtain ⟨f0, f1, f2⟩ := im_thaw e7
        have hlq := heap_lt1 e7
        have HM := Lib.hid (im_set e7 (.int .u64 (if y = true then 0 else (G : Int))) (.int .u64 (if y = true then 0 else (N : Int))) (.int .u32 (if y = true then 0 else (S : Int))))
        have HF := Lib.hid (((HB6.out.setCell (p := ⟨w.heap.size, 0, none⟩) (Nat.le_refl _) (.int .u64 (if y = true then 0 else (G : Int)))).setCell (p := ⟨w.heap.size, 1, none⟩) (Nat.le_refl _) (.int .u64 (if y = true then 0 else (N : Int)))).setCell (p := ⟨w.heap.size, 2, none⟩) (Nat.le_refl _) (.int .u32 (if y = true then 0 else (S : Int))))
        clear e6 e7
        cases y with
        | true =>
          simp only [if_true] at HM HF
          go_wp2
          (try simp only [Exit.inBlock, Exit.then])
          refine rec_ret (g := w.heap.size) (x := .bool false) Try.results7 ?_ ?_ ?_ HM.out rfl rfl rfl ?_
          · rfl
          · rfl
          · rfl
          · exact ⟨rfl, HF.out⟩
        | false =>
          simp only [Bool.false_eq_true, if_false] at HM HF
          go_wp2
          (try simp only [Exit.inBlock, Exit.then])
          refine rec_ret (g := w.heap.size) (x := .bool true) Try.results7 ?_ ?_ ?_ HM.out rfl rfl rfl ?_
          · rfl
          · rfl
          · rfl
          · exact ⟨rfl, HF.out⟩
      case wayB =>
        refine tail_val2 (some 4) (w1 := w3) (v := .pointer (some ⟨wd.heap.size, 0, none⟩)) rfl rfl rfl (by rw [← HW3.out]; exact alloc_rec _ _ rfl wd) HBA.out ⟨wd.heap.size, Nat.le_refl _, ?_⟩
        simp only [Act.put, List.setIfInBounds_toArray, List.set_cons_zero, List.set_cons_succ]
        refine plan_one (l := []) rfl (wpQuiet_nil ?_)
        refine tail_call (vs := #[.slice (some ⟨g, off + 24, none⟩) 4 (c - 24)]) Try.call12 rfl rfl rfl (R := fun r w' => r = .int .u64 (S : Int) ∧ w3 = w') ((HNC.out w3 HBw3.out).mono ?_) wd.heap.size (Nat.le_refl _) ?_
        · rintro e w' ⟨rfl, rfl⟩
          exact ⟨_, rfl, Below.refl _ _, rfl, rfl⟩
        rintro r w' _ ⟨rfl, rfl⟩
        simp only [Act.put, List.setIfInBounds_toArray, List.set_cons_zero, List.set_cons_succ]
        refine plan_fin (l := ?laB) (t := ?tlB) ?hlaB ?htlB ?_
        case hlaB => simp only [pick, List.getElem?_toArray, List.getElem?_cons_succ, List.getElem?_cons_zero]; rfl
        case htlB => simp only [pick, List.getElem?_toArray, List.getElem?_cons_succ, List.getElem?_cons_zero]; rfl
        repeat (go_big_quiet_step (fail))
        refine wpQuiet_nil ?_
        obtain ⟨z0, z1, z2⟩ := rk_cells HN3.out
        obtain ⟨f0, f1, f2⟩ := im_thaw HN3.out
        have hlz := heap_lt1 HN3.out
        obtain ⟨r0, r1, r2⟩ := rk_cells HNE.out
        have hle := heap_lt1 HNE.out
        go_wp2_with (first | (rw [HW5.out]) | fail)
        clear z0 z1 z2 f0 f1 f2 hlz
        refine wp_region_tail we.heap.size [([0, 3, 4], 1)] [2, 5] [] (by kernel_rfl) (by kernel_rfl) (by kernel_rfl) (fun _ _ _ _ _ h => h) ?_
        rw [HWE.out]
        have v0 : ∀ z : LaterB we.heap.size we, z.val.cell? ⟨wd.heap.size, 0, none⟩ = some (.int .u64 (G : Int)) := fun z => (z.ext.cell (p := ⟨wd.heap.size, 0, none⟩) hle).trans r0
        have v1 : ∀ z : LaterB we.heap.size we, z.val.cell? ⟨wd.heap.size, 1, none⟩ = some (.int .u64 (N : Int)) := fun z => (z.ext.cell (p := ⟨wd.heap.size, 1, none⟩) hle).trans r1
        have v2 : ∀ z : LaterB we.heap.size we, z.val.cell? ⟨wd.heap.size, 2, none⟩ = some (.int .u32 (S : Int)) := fun z => (z.ext.cell (p := ⟨wd.heap.size, 2, none⟩) hle).trans r2
        have v3 : ∀ z : LaterB we.heap.size we, (convert 24 9 (.slice (some ⟨g, off, none⟩) 512 c)).run Try.prog z.val = .ok (.string T) z.val := fun z => by rw [← HT.out]; exact conv_rd (HRE.out.below z.ext)
        refine tail_cons (l := ?sRB) ?hsRB ?_
        case hsRB => simp only [pick, List.getElem?_toArray, List.getElem?_cons_succ, List.getElem?_cons_zero]; rfl
        repeat (go_big_quiet_step (fail))
        refine wpQuiet_nil ?_
        clear v0 v1 v2 v3
        refine tail_call2 (vs := #[.agg #[.int .u64 (G : Int), .int .u64 (N : Int), .int .u32 (S : Int)]]) Try.call9 rfl rfl rfl (R := fun r w' => ∃ A m c, r = .slice A m c ∧ Rd w' w'.heap.size A m P ∧ Below we.heap.size we w') ((HPUT.out we).mono ?_) ?_
        · rintro e w' ⟨A, m, c, rfl, _, hr, hb⟩
          exact ⟨_, rfl, hb, A, m, c, rfl, hr, hb⟩
        rintro r w6 _ ⟨A6, m6, c6, rfl, hr6, hb6⟩
        refine ⟨w6.heap.size, hb6.size, ?_⟩
        simp only [Act.put, List.setIfInBounds_toArray, List.set_cons_zero, List.set_cons_succ]
        have u6 : ∀ z : LaterB w6.heap.size w6, (convert 24 9 (.slice A6 m6 c6)).run Try.prog z.val = .ok (.string U) z.val := fun z => by rw [← HU.out]; exact conv_rd (hr6.below z.ext)
        refine tail_last (l := ?lEB) (t := []) ?hlEB rfl ?_
        case hlEB => simp only [pick, List.getElem?_toArray, List.getElem?_cons_succ, List.getElem?_cons_zero]; rfl
        repeat (go_big_quiet_step (fail))
        refine wpQuiet_nil ?_
        have e6 := (hb6.block _ (heap_lt1 HNE.out)).trans HNE.out
        have e7 := (hb6.block _ (heap_lt1 HNR.out)).trans HNR.out
        have HB6 := Lib.hid (HBE.out.trans (hb6.mono HBE.out.size))
        clear u6 hr6 hb6 r0 r1 r2 hle
        obtain ⟨r0, r1, r2⟩ := rk_cells e6
        have hle := heap_lt1 e6
        obtain ⟨q0, q1, q2⟩ := rk_cells e7
        obtain ⟨f0, f1, f2⟩ := im_thaw e7
        have hlq := heap_lt1 e7
        have HM := Lib.hid (im_set e7 (.int .u64 (if y = true then 0 else (G : Int))) (.int .u64 (if y = true then 0 else (N : Int))) (.int .u32 (if y = true then 0 else (S : Int))))
        have HF := Lib.hid (((HB6.out.setCell (p := ⟨w.heap.size, 0, none⟩) (Nat.le_refl _) (.int .u64 (if y = true then 0 else (G : Int)))).setCell (p := ⟨w.heap.size, 1, none⟩) (Nat.le_refl _) (.int .u64 (if y = true then 0 else (N : Int)))).setCell (p := ⟨w.heap.size, 2, none⟩) (Nat.le_refl _) (.int .u32 (if y = true then 0 else (S : Int))))
        clear e6 e7
        cases y with
        | true =>
          simp only [if_true] at HM HF
          go_wp2
          (try simp only [Exit.inBlock, Exit.then])
          refine rec_ret (g := w.heap.size) (x := .bool false) Try.results7 ?_ ?_ ?_ HM.out rfl rfl rfl ?_
          · rfl
          · rfl
          · rfl
          · exact ⟨rfl, HF.out⟩
        | false =>
          simp only [Bool.false_eq_true, if_false] at HM HF
          go_wp2
          (try simp only [Exit.inBlock, Exit.then])
          refine rec_ret (g := w.heap.size) (x := .bool true) Try.results7 ?_ ?_ ?_ HM.out rfl rfl rfl ?_
          · rfl
          · rfl
          · rfl
          · exact ⟨rfl, HF.out⟩
    case wayC =>
      refine tail_val2 (some 4) (w1 := w3) (v := .pointer (some ⟨wd.heap.size, 0, none⟩)) rfl rfl rfl (by rw [← HW3.out]; exact alloc_rec _ _ rfl wd) HBA.out ⟨wd.heap.size, Nat.le_refl _, ?_⟩
      simp only [Act.put, List.setIfInBounds_toArray, List.set_cons_zero, List.set_cons_succ]
      refine plan_one (l := []) rfl (wpQuiet_nil ?_)
      refine tail_call (vs := #[.slice (some ⟨g, off + 16, none⟩) 8 (c - 16)]) Try.call12 rfl rfl rfl (R := fun r w' => r = .int .u64 (N : Int) ∧ w3 = w') ((HNB.out w3 HBw3.out).mono ?_) wd.heap.size (Nat.le_refl _) ?_
      · rintro e w' ⟨rfl, rfl⟩
        exact ⟨_, rfl, Below.refl _ _, rfl, rfl⟩
      rintro r w' _ ⟨rfl, rfl⟩
      simp only [Act.put, List.setIfInBounds_toArray, List.set_cons_zero, List.set_cons_succ]
      refine plan_one (l := []) rfl (wpQuiet_nil ?_)
      refine tail_call (vs := #[.slice (some ⟨g, off + 24, none⟩) 4 (c - 24)]) Try.call12 rfl rfl rfl (R := fun r w' => r = .int .u64 (S : Int) ∧ w3 = w') ((HNC.out w3 HBw3.out).mono ?_) wd.heap.size (Nat.le_refl _) ?_
      · rintro e w' ⟨rfl, rfl⟩
        exact ⟨_, rfl, Below.refl _ _, rfl, rfl⟩
      rintro r w' _ ⟨rfl, rfl⟩
      simp only [Act.put, List.setIfInBounds_toArray, List.set_cons_zero, List.set_cons_succ]
      refine plan_fin (l := ?laC) (t := ?tlC) ?hlaC ?htlC ?_
      case hlaC => simp only [pick, List.getElem?_toArray, List.getElem?_cons_succ, List.getElem?_cons_zero]; rfl
      case htlC => simp only [pick, List.getElem?_toArray, List.getElem?_cons_succ, List.getElem?_cons_zero]; rfl
      repeat (go_big_quiet_step (fail))
      refine wpQuiet_nil ?_
      obtain ⟨z0, z1, z2⟩ := rk_cells HN3.out
      obtain ⟨f0, f1, f2⟩ := im_thaw HN3.out
      have hlz := heap_lt1 HN3.out
      obtain ⟨r0, r1, r2⟩ := rk_cells HNE.out
      have hle := heap_lt1 HNE.out
      go_wp2_with (first | (rw [HW5.out]) | fail)
      clear z0 z1 z2 f0 f1 f2 hlz
      refine wp_region_tail we.heap.size [([0, 3, 4], 1)] [2, 5] [] (by kernel_rfl) (by kernel_rfl) (by kernel_rfl) (fun _ _ _ _ _ h => h) ?_
      rw [HWE.out]
      have v0 : ∀ z : LaterB we.heap.size we, z.val.cell? ⟨wd.heap.size, 0, none⟩ = some (.int .u64 (G : Int)) := fun z => (z.ext.cell (p := ⟨wd.heap.size, 0, none⟩) hle).trans r0
      have v1 : ∀ z : LaterB we.heap.size we, z.val.cell? ⟨wd.heap.size, 1, none⟩ = some (.int .u64 (N : Int)) := fun z => (z.ext.cell (p := ⟨wd.heap.size, 1, none⟩) hle).trans r1
      have v2 : ∀ z : LaterB we.heap.size we, z.val.cell? ⟨wd.heap.size, 2, none⟩ = some (.int .u32 (S : Int)) := fun z => (z.ext.cell (p := ⟨wd.heap.size, 2, none⟩) hle).trans r2
      have v3 : ∀ z : LaterB we.heap.size we, (convert 24 9 (.slice (some ⟨g, off, none⟩) 512 c)).run Try.prog z.val = .ok (.string T) z.val := fun z => by rw [← HT.out]; exact conv_rd (HRE.out.below z.ext)
      refine tail_cons (l := ?sRC) ?hsRC ?_
      case hsRC => simp only [pick, List.getElem?_toArray, List.getElem?_cons_succ, List.getElem?_cons_zero]; rfl
      repeat (go_big_quiet_step (fail))
      refine wpQuiet_nil ?_
      clear v0 v1 v2 v3
      refine tail_call2 (vs := #[.agg #[.int .u64 (G : Int), .int .u64 (N : Int), .int .u32 (S : Int)]]) Try.call9 rfl rfl rfl (R := fun r w' => ∃ A m c, r = .slice A m c ∧ Rd w' w'.heap.size A m P ∧ Below we.heap.size we w') ((HPUT.out we).mono ?_) ?_
      · rintro e w' ⟨A, m, c, rfl, _, hr, hb⟩
        exact ⟨_, rfl, hb, A, m, c, rfl, hr, hb⟩
      rintro r w6 _ ⟨A6, m6, c6, rfl, hr6, hb6⟩
      refine ⟨w6.heap.size, hb6.size, ?_⟩
      simp only [Act.put, List.setIfInBounds_toArray, List.set_cons_zero, List.set_cons_succ]
      have u6 : ∀ z : LaterB w6.heap.size w6, (convert 24 9 (.slice A6 m6 c6)).run Try.prog z.val = .ok (.string U) z.val := fun z => by rw [← HU.out]; exact conv_rd (hr6.below z.ext)
      refine tail_last (l := ?lEC) (t := []) ?hlEC rfl ?_
      case hlEC => simp only [pick, List.getElem?_toArray, List.getElem?_cons_succ, List.getElem?_cons_zero]; rfl
      repeat (go_big_quiet_step (fail))
      refine wpQuiet_nil ?_
      have e6 := (hb6.block _ (heap_lt1 HNE.out)).trans HNE.out
      have e7 := (hb6.block _ (heap_lt1 HNR.out)).trans HNR.out
      have HB6 := Lib.hid (HBE.out.trans (hb6.mono HBE.out.size))
      clear u6 hr6 hb6 r0 r1 r2 hle
      obtain ⟨r0, r1, r2⟩ := rk_cells e6
      have hle := heap_lt1 e6
      obtain ⟨q0, q1, q2⟩ := rk_cells e7
      obtain ⟨f0, f1, f2⟩ := im_thaw e7
      have hlq := heap_lt1 e7
      have HM := Lib.hid (im_set e7 (.int .u64 (if y = true then 0 else (G : Int))) (.int .u64 (if y = true then 0 else (N : Int))) (.int .u32 (if y = true then 0 else (S : Int))))
      have HF := Lib.hid (((HB6.out.setCell (p := ⟨w.heap.size, 0, none⟩) (Nat.le_refl _) (.int .u64 (if y = true then 0 else (G : Int)))).setCell (p := ⟨w.heap.size, 1, none⟩) (Nat.le_refl _) (.int .u64 (if y = true then 0 else (N : Int)))).setCell (p := ⟨w.heap.size, 2, none⟩) (Nat.le_refl _) (.int .u32 (if y = true then 0 else (S : Int))))
      clear e6 e7
      cases y with
      | true =>
        simp only [if_true] at HM HF
        go_wp2
        (try simp only [Exit.inBlock, Exit.then])
        refine rec_ret (g := w.heap.size) (x := .bool false) Try.results7 ?_ ?_ ?_ HM.out rfl rfl rfl ?_
        · rfl
        · rfl
        · rfl
        · exact ⟨rfl, HF.out⟩
      | false =>
        simp only [Bool.false_eq_true, if_false] at HM HF
        go_wp2
        (try simp only [Exit.inBlock, Exit.then])
        refine rec_ret (g := w.heap.size) (x := .bool true) Try.results7 ?_ ?_ ?_ HM.out rfl rfl rfl ?_
        · rfl
        · rfl
        · rfl
        · exact ⟨rfl, HF.out⟩
  case wayD =>
    refine tail_val2 (some 4) (w1 := w3) (v := .pointer (some ⟨wd.heap.size, 0, none⟩)) rfl rfl rfl (by rw [← HW3.out]; exact alloc_rec _ _ rfl wd) HBA.out ⟨wd.heap.size, Nat.le_refl _, ?_⟩
    simp only [Act.put, List.setIfInBounds_toArray, List.set_cons_zero, List.set_cons_succ]
    refine plan_one (l := []) rfl (wpQuiet_nil ?_)
    refine tail_call (vs := #[.slice (some ⟨g, off + 8, none⟩) 8 (c - 8)]) Try.call12 rfl rfl rfl (R := fun r w' => r = .int .u64 (G : Int) ∧ w3 = w') ((HNA.out w3 HBw3.out).mono ?_) wd.heap.size (Nat.le_refl _) ?_
    · rintro e w' ⟨rfl, rfl⟩
      exact ⟨_, rfl, Below.refl _ _, rfl, rfl⟩
    rintro r w' _ ⟨rfl, rfl⟩
    simp only [Act.put, List.setIfInBounds_toArray, List.set_cons_zero, List.set_cons_succ]
    refine plan_one (l := []) rfl (wpQuiet_nil ?_)
    refine tail_call (vs := #[.slice (some ⟨g, off + 16, none⟩) 8 (c - 16)]) Try.call12 rfl rfl rfl (R := fun r w' => r = .int .u64 (N : Int) ∧ w3 = w') ((HNB.out w3 HBw3.out).mono ?_) wd.heap.size (Nat.le_refl _) ?_
    · rintro e w' ⟨rfl, rfl⟩
      exact ⟨_, rfl, Below.refl _ _, rfl, rfl⟩
    rintro r w' _ ⟨rfl, rfl⟩
    simp only [Act.put, List.setIfInBounds_toArray, List.set_cons_zero, List.set_cons_succ]
    refine plan_one (l := []) rfl (wpQuiet_nil ?_)
    refine tail_call (vs := #[.slice (some ⟨g, off + 24, none⟩) 4 (c - 24)]) Try.call12 rfl rfl rfl (R := fun r w' => r = .int .u64 (S : Int) ∧ w3 = w') ((HNC.out w3 HBw3.out).mono ?_) wd.heap.size (Nat.le_refl _) ?_
    · rintro e w' ⟨rfl, rfl⟩
      exact ⟨_, rfl, Below.refl _ _, rfl, rfl⟩
    rintro r w' _ ⟨rfl, rfl⟩
    simp only [Act.put, List.setIfInBounds_toArray, List.set_cons_zero, List.set_cons_succ]
    refine plan_fin (l := ?laD) (t := ?tlD) ?hlaD ?htlD ?_
    case hlaD => simp only [pick, List.getElem?_toArray, List.getElem?_cons_succ, List.getElem?_cons_zero]; rfl
    case htlD => simp only [pick, List.getElem?_toArray, List.getElem?_cons_succ, List.getElem?_cons_zero]; rfl
    repeat (go_big_quiet_step (fail))
    refine wpQuiet_nil ?_
    obtain ⟨z0, z1, z2⟩ := rk_cells HN3.out
    obtain ⟨f0, f1, f2⟩ := im_thaw HN3.out
    have hlz := heap_lt1 HN3.out
    obtain ⟨r0, r1, r2⟩ := rk_cells HNE.out
    have hle := heap_lt1 HNE.out
    go_wp2_with (first | (rw [HW5.out]) | fail)
    clear z0 z1 z2 f0 f1 f2 hlz
    refine wp_region_tail we.heap.size [([0, 3, 4], 1)] [2, 5] [] (by kernel_rfl) (by kernel_rfl) (by kernel_rfl) (fun _ _ _ _ _ h => h) ?_
    rw [HWE.out]
    have v0 : ∀ z : LaterB we.heap.size we, z.val.cell? ⟨wd.heap.size, 0, none⟩ = some (.int .u64 (G : Int)) := fun z => (z.ext.cell (p := ⟨wd.heap.size, 0, none⟩) hle).trans r0
    have v1 : ∀ z : LaterB we.heap.size we, z.val.cell? ⟨wd.heap.size, 1, none⟩ = some (.int .u64 (N : Int)) := fun z => (z.ext.cell (p := ⟨wd.heap.size, 1, none⟩) hle).trans r1
    have v2 : ∀ z : LaterB we.heap.size we, z.val.cell? ⟨wd.heap.size, 2, none⟩ = some (.int .u32 (S : Int)) := fun z => (z.ext.cell (p := ⟨wd.heap.size, 2, none⟩) hle).trans r2
    have v3 : ∀ z : LaterB we.heap.size we, (convert 24 9 (.slice (some ⟨g, off, none⟩) 512 c)).run Try.prog z.val = .ok (.string T) z.val := fun z => by rw [← HT.out]; exact conv_rd (HRE.out.below z.ext)
    refine tail_cons (l := ?sRD) ?hsRD ?_
    case hsRD => simp only [pick, List.getElem?_toArray, List.getElem?_cons_succ, List.getElem?_cons_zero]; rfl
    repeat (go_big_quiet_step (fail))
    refine wpQuiet_nil ?_
    clear v0 v1 v2 v3
    refine tail_call2 (vs := #[.agg #[.int .u64 (G : Int), .int .u64 (N : Int), .int .u32 (S : Int)]]) Try.call9 rfl rfl rfl (R := fun r w' => ∃ A m c, r = .slice A m c ∧ Rd w' w'.heap.size A m P ∧ Below we.heap.size we w') ((HPUT.out we).mono ?_) ?_
    · rintro e w' ⟨A, m, c, rfl, _, hr, hb⟩
      exact ⟨_, rfl, hb, A, m, c, rfl, hr, hb⟩
    rintro r w6 _ ⟨A6, m6, c6, rfl, hr6, hb6⟩
    refine ⟨w6.heap.size, hb6.size, ?_⟩
    simp only [Act.put, List.setIfInBounds_toArray, List.set_cons_zero, List.set_cons_succ]
    have u6 : ∀ z : LaterB w6.heap.size w6, (convert 24 9 (.slice A6 m6 c6)).run Try.prog z.val = .ok (.string U) z.val := fun z => by rw [← HU.out]; exact conv_rd (hr6.below z.ext)
    refine tail_last (l := ?lED) (t := []) ?hlED rfl ?_
    case hlED => simp only [pick, List.getElem?_toArray, List.getElem?_cons_succ, List.getElem?_cons_zero]; rfl
    repeat (go_big_quiet_step (fail))
    refine wpQuiet_nil ?_
    have e6 := (hb6.block _ (heap_lt1 HNE.out)).trans HNE.out
    have e7 := (hb6.block _ (heap_lt1 HNR.out)).trans HNR.out
    have HB6 := Lib.hid (HBE.out.trans (hb6.mono HBE.out.size))
    clear u6 hr6 hb6 r0 r1 r2 hle
    obtain ⟨r0, r1, r2⟩ := rk_cells e6
    have hle := heap_lt1 e6
    obtain ⟨q0, q1, q2⟩ := rk_cells e7
    obtain ⟨f0, f1, f2⟩ := im_thaw e7
    have hlq := heap_lt1 e7
    have HM := Lib.hid (im_set e7 (.int .u64 (if y = true then 0 else (G : Int))) (.int .u64 (if y = true then 0 else (N : Int))) (.int .u32 (if y = true then 0 else (S : Int))))
    have HF := Lib.hid (((HB6.out.setCell (p := ⟨w.heap.size, 0, none⟩) (Nat.le_refl _) (.int .u64 (if y = true then 0 else (G : Int)))).setCell (p := ⟨w.heap.size, 1, none⟩) (Nat.le_refl _) (.int .u64 (if y = true then 0 else (N : Int)))).setCell (p := ⟨w.heap.size, 2, none⟩) (Nat.le_refl _) (.int .u32 (if y = true then 0 else (S : Int))))
    clear e6 e7
    cases y with
    | true =>
      simp only [if_true] at HM HF
      go_wp2
      (try simp only [Exit.inBlock, Exit.then])
      refine rec_ret (g := w.heap.size) (x := .bool false) Try.results7 ?_ ?_ ?_ HM.out rfl rfl rfl ?_
      · rfl
      · rfl
      · rfl
      · exact ⟨rfl, HF.out⟩
    | false =>
      simp only [Bool.false_eq_true, if_false] at HM HF
      go_wp2
      (try simp only [Exit.inBlock, Exit.then])
      refine rec_ret (g := w.heap.size) (x := .bool true) Try.results7 ?_ ?_ ?_ HM.out rfl rfl rfl ?_
      · rfl
      · rfl
      · rfl
      · exact ⟨rfl, HF.out⟩
end Go.Proofs.Yteomiekjcnpnlaa
