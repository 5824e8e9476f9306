/- The program's images: Put (genimg7.py). -/
import Derived.Test.YtlhahibdddcpfaaImg4
import Derived.Test.YtlhahibdddcpfaaImg6
namespace Go.Proofs.Ytlhahibdddcpfaa
open Go.RowKit

section
variable {P : Program}
/-- '[]byte("..")' of a constant: the row's end is marked; its cells are as they were. -/
theorem conv_mark (v : World) (t e : TypeId) (g : Nat) (C : Array Value) (n c : Nat) (ht : P.underlying t = some (.slice e)) (he : P.underlying e = some (.int .u8)) (hg : v.heap[g]? = some (.cells C e (0, 0))) :
    ∃ v', (convert t t (.slice (some ⟨g, 0, none⟩) n c)).run P v = .ok (.slice (some ⟨g, 0, none⟩) n c) v' ∧ v'.heap[g]? = some (.cells C e (C.size, C.size + 1)) ∧ v'.heap.size = v.heap.size ∧ (∀ k, k ≠ g → v'.heap[k]? = v.heap[k]?) ∧ ∀ B, B ≤ g → Below B v v' := by
  have hsh : v.shape? g = some (e, C.size) := by
    unfold World.shape?
    rw [hg]
  refine ⟨v.freeze ⟨g, C.size, none⟩ 1, ?_, ?_, ?_, fun k hk => ?_, fun B hB => ?_⟩
  · simp [convert, run_underlying ht, run_underlying he, markStringish, hsh]
  · unfold World.freeze
    rw [if_neg (by decide)]
    show (v.heap.modify g _)[g]? = _
    rw [Array.getElem?_modify, if_pos rfl, hg]
    rfl
  · unfold World.freeze
    rw [if_neg (by decide)]
    simp
  · unfold World.freeze
    rw [if_neg (by decide)]
    show (v.heap.modify g _)[k]? = _
    rw [Array.getElem?_modify, if_neg (fun e => hk e.symm)]
  · unfold World.freeze
    rw [if_neg (by decide)]
    refine ⟨rfl, rfl, rfl, by simp, fun k hk => ?_⟩
    show (v.heap.modify g _)[k]? = _
    rw [Array.getElem?_modify, if_neg (by omega)]
theorem conv_run {o : Oper} {a : Act} {w w1 : World} {f t : TypeId} {x : Operand} {V V' : Value} (ho : o.op = .convert f t x) (hx : a.eval x = V) (h : (convert f t V).run P w = .ok V' w1) : (execOp a.eval o).run P w = .ok (.value V') w1 := by
  unfold execOp
  simp only [ho]
  rw [hx, Sem.run_bind, h]
  rfl
end
theorem fill_mark {w : World} {g : Nat} {t : TypeId} {fz : Nat × Nat} {bs : List UInt8} (h : w.heap[g]? = some (.cells (rowB bs) t fz)) : Rd w w.heap.size (some ⟨g, 0, none⟩) bs.length bs := by
  have hlt : g < w.heap.size := by
    rcases Nat.lt_or_ge g w.heap.size with h' | h'
    · exact h'
    · rw [Array.getElem?_eq_none h'] at h; cases h
  refine ⟨rfl, fun _ => ⟨g, 0, rfl, hlt, fun j u hu => ?_⟩⟩
  rw [Nat.zero_add, cell_of_row w g j _ _ fz h]
  unfold rowB
  simp [hu]
  rfl
theorem heap_ltz {w : World} {g : Nat} {cs : Array Value} {t : TypeId} {fz : Nat × Nat} (h : w.heap[g]? = some (.cells cs t fz)) : g < w.heap.size := by
  rcases Nat.lt_or_ge g w.heap.size with h' | h'
  · exact h'
  · rw [Array.getElem?_eq_none h'] at h; cases h
theorem run_mark (w : World) : (Instr.buildSlice 31 8 #[(0, .int .u8 67), (1, .int .u8 78), (2, .int .u8 84), (3, .int .u8 76), (4, .int .u8 1), (5, .int .u8 0), (6, .int .u8 0), (7, .int .u8 0)]).run Try.prog w = .ok (.slice (some ⟨w.heap.size, 0, none⟩) 8 8) (w.alloc (.cells (rowB markB) 5)) := by
  have e : rowB markB = #[.int .u8 67, .int .u8 78, .int .u8 84, .int .u8 76, .int .u8 1, .int .u8 0, .int .u8 0, .int .u8 0] := by rfl
  rw [e]
  simp [go_sem]
theorem run_three (w : World) (A B C : Option Addr) (a b c d e f : Nat) : (Instr.buildSlice 23 3 #[(0, .slice A a b), (1, .slice B c d), (2, .slice C e f)]).run Try.prog w = .ok (.slice (some ⟨w.heap.size, 0, none⟩) 3 3) (w.alloc (.cells #[.slice A a b, .slice B c d, .slice C e f] 31)) := by
  simp [go_sem]
/-- Three slices in a row of their own. -/
theorem three_rd {w : World} {g : Nat} {A B C : Option Addr} {a b c : Nat} {x y z : List UInt8} (hg : w.heap[g]? = some (.cells #[.slice A x.length a, .slice B y.length b, .slice C z.length c] 31 (0, 0)))
    (hx : Rd w w.heap.size A x.length x) (hy : Rd w w.heap.size B y.length y) (hz : Rd w w.heap.size C z.length z) (ha : x.length ≤ a ∧ (A = none → a = 0)) (hb : y.length ≤ b ∧ (B = none → b = 0)) (hc : z.length ≤ c ∧ (C = none → c = 0)) (hl : x.length ≤ maxLen ∧ y.length ≤ maxLen ∧ z.length ≤ maxLen) :
    DtRd w w.heap.size (some ⟨g, 0, none⟩) [x, y, z] := fun _ => by
  obtain ⟨c0, c1, c2⟩ := rk_cells hg
  refine ⟨g, 0, rfl, heap_lt1 hg, fun j u hu => ?_⟩
  match j, hu with
  | 0, hu => injection hu with hu; subst hu; exact ⟨A, a, c0, hx, hl.1, ha⟩
  | 1, hu => injection hu with hu; subst hu; exact ⟨B, b, c1, hy, hl.2.1, hb⟩
  | 2, hu => injection hu with hu; subst hu; exact ⟨C, c, c2, hz, hl.2.2, hc⟩
  | j + 3, hu => cases hu
set_option maxHeartbeats 400000 in
theorem imput_no (w : World) (n : Int) (hn : -9223372036854775808 ≤ n ∧ n ≤ 9223372036854775807) (A1 A2 : Option Addr) (k1 k2 : Nat) (l : List Rk) (d : List (List UInt8)) (hr : RkRd w w.heap.size A1 l) (hd : DtRd w w.heap.size A2 d) (hl : l.length ≤ 1000000) (hdl : d.length ≤ 1000000) (hm : mayI n l d = false) :
    Calls Try.prog 10 #[imV n A1 l.length k1 A2 d.length k2] w fun e w' => e = .returned (.tuple #[.slice none 0 0, .iface 52 (.int .i64 1)]) ∧ Below w.heap.size w w' := by
  obtain ⟨w1, hw1⟩ : ∃ w1, w.alloc (.cells #[.int .i64 n, .slice A1 l.length k1, .slice A2 d.length k2] 27) = w1 := ⟨_, rfl⟩
  have hb1 : Below w.heap.size w w1 := by rw [← hw1]; exact (Below.refl _ _).alloc (Nat.le_refl _) _
  have n1 : w1.heap[w.heap.size]? = some (.cells #[.int .i64 n, .slice A1 l.length k1, .slice A2 d.length k2] 27 (0, 0)) := by rw [← hw1]; exact heap_alloc_new w _
  have HM := Lib.hid (immay_any w1 n hn A1 A2 k1 k2 l d ((hr.below hb1).more hb1.size) ((hd.below hb1).more hb1.size) hl hdl _ hm)
  unfold imV at HM ⊢
  obtain ⟨ll, hll⟩ : ∃ ll, l.length = ll := ⟨_, rfl⟩
  obtain ⟨dl, hdll⟩ : ∃ dl, d.length = dl := ⟨_, rfl⟩
  rw [hll, hdll] at n1 hw1 HM
  rw [hll, hdll]
  obtain ⟨d0, d1, d2⟩ := rk_cells n1
  have hl1 := heap_lt1 n1
  have HB1 := Lib.hid hb1
  have HW1 := Lib.hid hw1
  clear hw1 hb1 n1 hr hd hll hdll hm
  go_enter Try.func10, Try.ntmps10
  go_wp2_with (first | (rw [HW1.out]) | fail)
  refine HM.out.mono ?_
  rintro e w2 ⟨rfl, hb2⟩
  have HF := Lib.hid (HB1.out.trans (hb2.mono HB1.out.size))
  clear hb2
  go_wp2
  go_ret2
  exact ⟨rfl, HF.out⟩
set_option maxRecDepth 100000 in
set_option maxHeartbeats 8000000 in
theorem imput_ok (w : World) (n : Nat) (hn : n < 9223372036854775808) (A1 A2 : Option Addr) (k1 k2 : Nat) (l : List Rk) (d : List (List UInt8)) (hr : RkRd w w.heap.size A1 l) (hd : DtRd w w.heap.size A2 d) (hl : l.length ≤ 1000) (hdl : d.length ≤ 1000) (hfl : d.flatten.length ≤ 100000) (hm : mayI (n : Int) l d = true) :
    Calls Try.prog 10 #[imV (n : Int) A1 l.length k1 A2 d.length k2] w fun e w' => ∃ A c, e = .returned (.tuple #[.slice A (putB n l d).length c, .nilIface]) ∧ w'.ownsRow w.heap.size 5 1 (.slice A (putB n l d).length c) (putB n l d).length ((putB n l d).map bv) ∧ Below w.heap.size w w' := by
  rw [putB_len]
  have HPT := Lib.hid (fun j => tagsB_tl l j)
  have HFT := Lib.hid (fun j => Nat.le_trans (flat_len_take d j) hfl)
  have HTL := Lib.hid (tagsB_len l)
  obtain ⟨fl, hfl'⟩ : ∃ fl, d.flatten.length = fl := ⟨_, rfl⟩
  rw [hfl'] at hfl
  rw [hfl']
  have HFL := Lib.hid hfl'
  have HAL := Lib.hid (putA_len n l.length)
  have HTTL := Lib.hid (putT_len n l)
  have HDL2 := Lib.hid (putD_len n l d)
  obtain ⟨w1, hw1⟩ : ∃ w1, w.alloc (.cells #[.int .i64 (n : Int), .slice A1 l.length k1, .slice A2 d.length k2] 27) = w1 := ⟨_, rfl⟩
  have hb1 : Below w.heap.size w w1 := by rw [← hw1]; exact (Below.refl _ _).alloc (Nat.le_refl _) _
  have n1 : w1.heap[w.heap.size]? = some (.cells #[.int .i64 (n : Int), .slice A1 l.length k1, .slice A2 d.length k2] 27 (0, 0)) := by rw [← hw1]; exact heap_alloc_new w _
  have HM := Lib.hid (immay_any w1 (n : Int) (by omega) A1 A2 k1 k2 l d ((hr.below hb1).more hb1.size) ((hd.below hb1).more hb1.size) (by omega) (by omega) _ hm)
  unfold imV at HM ⊢
  obtain ⟨ll, hll⟩ : ∃ ll, l.length = ll := ⟨_, rfl⟩
  obtain ⟨dl, hdll⟩ : ∃ dl, d.length = dl := ⟨_, rfl⟩
  have HLL := Lib.hid hll
  have HDLL := Lib.hid hdll
  have HPTE : Hid (wSum (putA n ll ++ tagsB l) 28 = putT n l) := (show _ = _ by rw [← hll]; rfl)
  obtain ⟨T, hT⟩ : ∃ T, (putT n l).length = T := ⟨_, rfl⟩
  have HTL2 := Lib.hid hT
  have HPDE : Hid (wSum (putT n l ++ d.flatten) T = putD n l d) := (show _ = _ by rw [← hT]; rfl)
  have HTE : Hid (28 + 8 * ll + 4 = T) := (show _ = _ by rw [← hT, putT_len, hll]; omega)
  rw [hll] at hl HPT HTL HAL HTTL HDL2
  rw [hfl'] at HDL2
  rw [hdll] at hdl
  rw [hll, hdll] at n1 hw1 HM
  rw [hll, hdll]
  obtain ⟨d0, d1, d2⟩ := rk_cells n1
  have hl1 := heap_lt1 n1
  have HB1 := Lib.hid hb1
  have HW1 := Lib.hid hw1
  have HR := Lib.hid ((hr.below hb1).more hb1.size)
  have HD := Lib.hid ((hd.below hb1).more hb1.size)
  have HN1 := Lib.hid n1
  clear hw1 hb1 n1 hr hd hll hdll hfl' hm
  go_enter Try.func10, Try.ntmps10
  go_wp2_with (first | (rw [HW1.out]) | fail)
  refine HM.out.mono ?_
  rintro e w2 ⟨rfl, hb2⟩
  obtain ⟨wd, hwd⟩ : ∃ wd, w2.drew = wd := ⟨_, rfl⟩
  have hbd : Below w1.heap.size w1 wd := by rw [← hwd]; exact hb2.drew
  have nd := (hbd.block _ (heap_lt1 HN1.out)).trans HN1.out
  obtain ⟨c0, c1, c2⟩ := rk_cells nd
  have hld := heap_lt1 nd
  have HBD := Lib.hid hbd
  have HWD := Lib.hid hwd
  have HND := Lib.hid nd
  have HPUT := Lib.hid (fun W v (hv : v < 18446744073709551616) => put_any v W hv)
  clear hb2 hwd hbd nd d0 d1 d2 HM
  go_wp2_with fail
  go_cut [4] from 10 (fun b wx => wx.ownsRow wd.heap.size 5 1 b 24 ((headB n ll).map bv) ∧ Below wd.heap.size wd wx)
  case first =>
    refine wp_region_plan wd.heap.size (.two [2, 3, 4, 6, 7, 8, 9] 0 (.two [] 1 (.one [] 5 (.one [] 10 (.one [] 11 (.one [] 12 (.fin [13]))))) 5 (.two [] 1 (.one [] 10 (.one [] 11 (.one [] 12 (.fin [13])))) 10 (.one [] 1 (.one [] 11 (.one [] 12 (.fin [13])))))) 5 (.two [] 0 (.two [] 1 (.one [] 10 (.one [] 11 (.one [] 12 (.fin [13])))) 10 (.one [] 1 (.one [] 11 (.one [] 12 (.fin [13]))))) 10 (.one [] 0 (.one [] 1 (.one [] 11 (.one [] 12 (.fin [13]))))))) [] (by kernel_rfl) (by kernel_rfl) (by kernel_rfl) (fun _ _ _ _ _ h => h) ?_
    rw [HWD.out]
    have q0 : ∀ z : LaterB wd.heap.size wd, z.val.cell? ⟨w.heap.size, 0, none⟩ = some (.int .i64 (n : Int)) := fun z => (z.ext.cell (p := ⟨w.heap.size, 0, none⟩) hld).trans c0
    have q1 : ∀ z : LaterB wd.heap.size wd, z.val.cell? ⟨w.heap.size, 1, none⟩ = some (.slice A1 ll k1) := fun z => (z.ext.cell (p := ⟨w.heap.size, 1, none⟩) hld).trans c1
    have cb0 : Below wd.heap.size wd wd := Below.refl _ _
    refine plan_two (l := ?segA) ?hsegA ?_
    case hsegA => simp only [pick, List.getElem?_toArray, List.getElem?_cons_succ, List.getElem?_cons_zero]; rfl
    repeat (go_big_quiet_step (fail))
    refine wpQuiet_nil ?_
    clear q0 q1
    refine ⟨?wayWa, ?wayWb⟩
    case wayWa =>
      refine tail_val2 (some 14) (w1 := wd.alloc (.cells (rowB markB) 5)) (v := .slice (some ⟨wd.heap.size, 0, none⟩) 8 8) rfl rfl rfl (bslice_run rfl rfl (run_mark wd)) ((Below.refl _ _).alloc cb0.size _) ⟨wd.heap.size, Nat.le_refl _, ?_⟩
      obtain ⟨v1, hv1⟩ : ∃ v1, wd.alloc (.cells (rowB markB) 5) = v1 := ⟨_, rfl⟩
      have hbv1 : Below wd.heap.size wd v1 := by rw [← hv1]; exact (Below.refl _ _).alloc (Nat.le_refl _) _
      have fmv1 : v1.heap[wd.heap.size]? = some (.cells (rowB markB) 5 (0, 0)) := by rw [← hv1]; exact heap_alloc_new wd _
      have cb1 : Below wd.heap.size wd v1 := cb0.trans (hbv1.mono cb0.size)
      have lmv1 : wd.heap.size ≤ wd.heap.size := cb0.size
      have lsv1 : wd.heap.size < v1.heap.size := heap_ltz fmv1
      rw [hv1]
      clear hv1
      simp only [Act.put, List.setIfInBounds_toArray, List.set_cons_zero, List.set_cons_succ]
      refine plan_two (l := []) rfl (wpQuiet_nil ?_)
      refine ⟨?wayWaa, ?wayWab⟩
      case wayWaa =>
        obtain ⟨v2, hrv2, fmv2, szv2, kpv2, blv2⟩ := conv_mark (P := Try.prog) v1 31 5 wd.heap.size (rowB markB) 8 8 Try.underlying31 Try.underlying5 fmv1
        refine tail_val2 (some 15) rfl rfl rfl (conv_run rfl rfl hrv2) (blv2 wd.heap.size lmv1) ⟨wd.heap.size, Nat.le_refl _, ?_⟩
        have cb2 : Below wd.heap.size wd v2 := cb1.trans (blv2 wd.heap.size lmv1)
        have lsv2 : v2.heap.size = v1.heap.size := szv2
        clear hrv2
        simp only [Act.put, List.setIfInBounds_toArray, List.set_cons_zero, List.set_cons_succ]
        refine plan_one (l := []) rfl (wpQuiet_nil ?_)
        refine tail_call (vs := #[.int .u64 (n : Int)]) Try.call20 rfl rfl rfl (R := fun r w' => r = .slice (some ⟨v2.heap.size, 0, none⟩) 8 8 ∧ w'.heap[v2.heap.size]? = some (.cells (rowB (lowB 8 n)) 5 (0, 0)) ∧ Below v2.heap.size v2 w') ((HPUT.out v2 n (by omega)).mono ?_) wd.heap.size (Nat.le_refl _) ?_
        · rintro e w' ⟨rfl, hf, hb⟩
          exact ⟨_, rfl, hb.mono cb2.size, rfl, hf, hb⟩
        rintro r v3 _ ⟨rfl, flv3, hbv3⟩
        have lsv3 : v2.heap.size < v3.heap.size := heap_ltz flv3
        have cb3 : Below wd.heap.size wd v3 := cb2.trans (hbv3.mono cb2.size)
        have ff1 := ((hbv3.block _ (heap_ltz fmv2)).trans fmv2)
        simp only [Act.put, List.setIfInBounds_toArray, List.set_cons_zero, List.set_cons_succ]
        refine plan_one (l := []) rfl (wpQuiet_nil ?_)
        refine tail_call (vs := #[.int .u64 (ll : Int)]) Try.call20 rfl rfl rfl (R := fun r w' => r = .slice (some ⟨v3.heap.size, 0, none⟩) 8 8 ∧ w'.heap[v3.heap.size]? = some (.cells (rowB (lowB 8 ll)) 5 (0, 0)) ∧ Below v3.heap.size v3 w') ((HPUT.out v3 ll (by omega)).mono ?_) wd.heap.size (Nat.le_refl _) ?_
        · rintro e w' ⟨rfl, hf, hb⟩
          exact ⟨_, rfl, hb.mono cb3.size, rfl, hf, hb⟩
        rintro r v4 _ ⟨rfl, fcv4, hbv4⟩
        have lsv4 : v3.heap.size < v4.heap.size := heap_ltz fcv4
        have cb4 : Below wd.heap.size wd v4 := cb3.trans (hbv4.mono cb3.size)
        have ff2 := ((hbv4.block _ (heap_ltz ff1)).trans ff1)
        have ff3 := ((hbv4.block _ (heap_ltz flv3)).trans flv3)
        simp only [Act.put, List.setIfInBounds_toArray, List.set_cons_zero, List.set_cons_succ]
        refine plan_one (l := []) rfl (wpQuiet_nil ?_)
        obtain ⟨w8, hw8⟩ : ∃ w8, v4.alloc (.cells #[.slice (some ⟨wd.heap.size, 0, none⟩) 8 8, .slice (some ⟨v2.heap.size, 0, none⟩) 8 8, .slice (some ⟨v3.heap.size, 0, none⟩) 8 8] 31) = w8 := ⟨_, rfl⟩
        have hb8 : Below v4.heap.size v4 w8 := by rw [← hw8]; exact (Below.refl _ _).alloc (Nat.le_refl _) _
        have n8 : w8.heap[v4.heap.size]? = some (.cells #[.slice (some ⟨wd.heap.size, 0, none⟩) 8 8, .slice (some ⟨v2.heap.size, 0, none⟩) 8 8, .slice (some ⟨v3.heap.size, 0, none⟩) 8 8] 31 (0, 0)) := by rw [← hw8]; exact heap_alloc_new v4 _
        have hd8 : DtRd w8 w8.heap.size (some ⟨v4.heap.size, 0, none⟩) [markB, lowB 8 n, lowB 8 ll] := by
          refine three_rd (a := 8) (b := 8) (c := 8) (A := some ⟨wd.heap.size, 0, none⟩) (B := some ⟨v2.heap.size, 0, none⟩) (C := some ⟨v3.heap.size, 0, none⟩) ?_ ?_ ?_ ?_ ⟨Nat.le_refl _, fun e => by cases e⟩ ⟨by rw [lowB_length]; exact Nat.le_refl _, fun e => by cases e⟩ ⟨by rw [lowB_length]; exact Nat.le_refl _, fun e => by cases e⟩ ⟨by unfold maxLen markB; simp, by rw [lowB_length]; unfold maxLen; omega, by rw [lowB_length]; unfold maxLen; omega⟩
          · rw [lowB_length, lowB_length]; exact n8
          · exact ((fill_mark ff2).below hb8).more hb8.size
          · exact ((fill_mark ff3).below hb8).more hb8.size
          · exact ((fill_mark fcv4).below hb8).more hb8.size
        have hc8 := concat_any w8 (some ⟨v4.heap.size, 0, none⟩) 3 [markB, lowB 8 n, lowB 8 ll] hd8 (by simp) (by simp [markB, lowB_length])
        have e8 : ([markB, lowB 8 n, lowB 8 ll] : List (List UInt8)).flatten = headB n ll := by unfold headB; simp
        rw [e8, headB_len] at hc8
        have HC8 := Lib.hid hc8
        have HBW8 := Lib.hid cb4
        have HB8 := Lib.hid hb8
        refine tail_val2 (some 25) (w1 := w8) (v := .slice (some ⟨v4.heap.size, 0, none⟩) 3 3) rfl rfl rfl (by rw [← hw8]; exact bslice_run rfl rfl (run_three v4 _ _ _ _ _ _ _ _ _)) (hb8.mono HBW8.out.size) ⟨wd.heap.size, Nat.le_refl _, ?_⟩
        clear hw8 hb8 n8 hd8 hc8 e8
        simp only [Act.put, List.setIfInBounds_toArray, List.set_cons_zero, List.set_cons_succ]
        refine plan_one (l := []) rfl (wpQuiet_nil ?_)
        refine tail_call (vs := #[.slice (some ⟨v4.heap.size, 0, none⟩) 3 3]) Try.call19 rfl rfl rfl (R := fun r w' => w'.ownsRow w8.heap.size 5 1 r 24 ((headB n ll).map bv) ∧ Below w8.heap.size w8 w') (HC8.out.mono ?_) wd.heap.size (Nat.le_refl _) ?_
        · rintro e w' ⟨v, rfl, ho, hb⟩
          exact ⟨_, rfl, hb.mono (Nat.le_trans HBW8.out.size HB8.out.size), ho, hb⟩
        rintro r w9 _ ⟨ho9, hb9⟩
        have HF9 := Lib.hid (And.intro (own_lift ho9 (Nat.le_trans HBW8.out.size HB8.out.size)) ((HBW8.out.trans (HB8.out.mono HBW8.out.size)).trans (hb9.mono (Nat.le_trans HBW8.out.size HB8.out.size))))
        clear ho9 hb9
        simp only [Act.put, List.setIfInBounds_toArray, List.set_cons_zero, List.set_cons_succ]
        refine plan_fin (l := ?finWaacc) (t := []) ?hfinWaacc ?htfinWaacc ?_
        case hfinWaacc => simp only [pick, List.getElem?_toArray, List.getElem?_cons_succ, List.getElem?_cons_zero]; rfl
        case htfinWaacc => rfl
        repeat (go_big_quiet_step (fail))
        refine wpQuiet_nil ?_
        go_wp2_with fail
        go_meet
        case rel => exact HF9.out
      case wayWab =>
        refine tail_call (vs := #[.int .u64 (n : Int)]) Try.call20 rfl rfl rfl (R := fun r w' => r = .slice (some ⟨v1.heap.size, 0, none⟩) 8 8 ∧ w'.heap[v1.heap.size]? = some (.cells (rowB (lowB 8 n)) 5 (0, 0)) ∧ Below v1.heap.size v1 w') ((HPUT.out v1 n (by omega)).mono ?_) wd.heap.size (Nat.le_refl _) ?_
        · rintro e w' ⟨rfl, hf, hb⟩
          exact ⟨_, rfl, hb.mono cb1.size, rfl, hf, hb⟩
        rintro r v2 _ ⟨rfl, flv2, hbv2⟩
        have lsv2 : v1.heap.size < v2.heap.size := heap_ltz flv2
        have cb2 : Below wd.heap.size wd v2 := cb1.trans (hbv2.mono cb1.size)
        have ff4 := ((hbv2.block _ (heap_ltz fmv1)).trans fmv1)
        simp only [Act.put, List.setIfInBounds_toArray, List.set_cons_zero, List.set_cons_succ]
        refine plan_two (l := []) rfl (wpQuiet_nil ?_)
        refine ⟨?wayWaba, ?wayWabb⟩
        case wayWaba =>
          obtain ⟨v3, hrv3, fmv3, szv3, kpv3, blv3⟩ := conv_mark (P := Try.prog) v2 31 5 wd.heap.size (rowB markB) 8 8 Try.underlying31 Try.underlying5 ff4
          refine tail_val2 (some 15) rfl rfl rfl (conv_run rfl rfl hrv3) (blv3 wd.heap.size lmv1) ⟨wd.heap.size, Nat.le_refl _, ?_⟩
          have cb3 : Below wd.heap.size wd v3 := cb2.trans (blv3 wd.heap.size lmv1)
          have lsv3 : v3.heap.size = v2.heap.size := szv3
          clear hrv3
          have ne6 : v1.heap.size ≠ wd.heap.size := by omega
          have ff5 := ((kpv3 _ ne6).trans flv2)
          simp only [Act.put, List.setIfInBounds_toArray, List.set_cons_zero, List.set_cons_succ]
          refine plan_one (l := []) rfl (wpQuiet_nil ?_)
          refine tail_call (vs := #[.int .u64 (ll : Int)]) Try.call20 rfl rfl rfl (R := fun r w' => r = .slice (some ⟨v3.heap.size, 0, none⟩) 8 8 ∧ w'.heap[v3.heap.size]? = some (.cells (rowB (lowB 8 ll)) 5 (0, 0)) ∧ Below v3.heap.size v3 w') ((HPUT.out v3 ll (by omega)).mono ?_) wd.heap.size (Nat.le_refl _) ?_
          · rintro e w' ⟨rfl, hf, hb⟩
            exact ⟨_, rfl, hb.mono cb3.size, rfl, hf, hb⟩
          rintro r v4 _ ⟨rfl, fcv4, hbv4⟩
          have lsv4 : v3.heap.size < v4.heap.size := heap_ltz fcv4
          have cb4 : Below wd.heap.size wd v4 := cb3.trans (hbv4.mono cb3.size)
          have ff7 := ((hbv4.block _ (heap_ltz fmv3)).trans fmv3)
          have ff8 := ((hbv4.block _ (heap_ltz ff5)).trans ff5)
          simp only [Act.put, List.setIfInBounds_toArray, List.set_cons_zero, List.set_cons_succ]
          refine plan_one (l := []) rfl (wpQuiet_nil ?_)
          obtain ⟨w8, hw8⟩ : ∃ w8, v4.alloc (.cells #[.slice (some ⟨wd.heap.size, 0, none⟩) 8 8, .slice (some ⟨v1.heap.size, 0, none⟩) 8 8, .slice (some ⟨v3.heap.size, 0, none⟩) 8 8] 31) = w8 := ⟨_, rfl⟩
          have hb8 : Below v4.heap.size v4 w8 := by rw [← hw8]; exact (Below.refl _ _).alloc (Nat.le_refl _) _
          have n8 : w8.heap[v4.heap.size]? = some (.cells #[.slice (some ⟨wd.heap.size, 0, none⟩) 8 8, .slice (some ⟨v1.heap.size, 0, none⟩) 8 8, .slice (some ⟨v3.heap.size, 0, none⟩) 8 8] 31 (0, 0)) := by rw [← hw8]; exact heap_alloc_new v4 _
          have hd8 : DtRd w8 w8.heap.size (some ⟨v4.heap.size, 0, none⟩) [markB, lowB 8 n, lowB 8 ll] := by
            refine three_rd (a := 8) (b := 8) (c := 8) (A := some ⟨wd.heap.size, 0, none⟩) (B := some ⟨v1.heap.size, 0, none⟩) (C := some ⟨v3.heap.size, 0, none⟩) ?_ ?_ ?_ ?_ ⟨Nat.le_refl _, fun e => by cases e⟩ ⟨by rw [lowB_length]; exact Nat.le_refl _, fun e => by cases e⟩ ⟨by rw [lowB_length]; exact Nat.le_refl _, fun e => by cases e⟩ ⟨by unfold maxLen markB; simp, by rw [lowB_length]; unfold maxLen; omega, by rw [lowB_length]; unfold maxLen; omega⟩
            · rw [lowB_length, lowB_length]; exact n8
            · exact ((fill_mark ff7).below hb8).more hb8.size
            · exact ((fill_mark ff8).below hb8).more hb8.size
            · exact ((fill_mark fcv4).below hb8).more hb8.size
          have hc8 := concat_any w8 (some ⟨v4.heap.size, 0, none⟩) 3 [markB, lowB 8 n, lowB 8 ll] hd8 (by simp) (by simp [markB, lowB_length])
          have e8 : ([markB, lowB 8 n, lowB 8 ll] : List (List UInt8)).flatten = headB n ll := by unfold headB; simp
          rw [e8, headB_len] at hc8
          have HC8 := Lib.hid hc8
          have HBW8 := Lib.hid cb4
          have HB8 := Lib.hid hb8
          refine tail_val2 (some 25) (w1 := w8) (v := .slice (some ⟨v4.heap.size, 0, none⟩) 3 3) rfl rfl rfl (by rw [← hw8]; exact bslice_run rfl rfl (run_three v4 _ _ _ _ _ _ _ _ _)) (hb8.mono HBW8.out.size) ⟨wd.heap.size, Nat.le_refl _, ?_⟩
          clear hw8 hb8 n8 hd8 hc8 e8
          simp only [Act.put, List.setIfInBounds_toArray, List.set_cons_zero, List.set_cons_succ]
          refine plan_one (l := []) rfl (wpQuiet_nil ?_)
          refine tail_call (vs := #[.slice (some ⟨v4.heap.size, 0, none⟩) 3 3]) Try.call19 rfl rfl rfl (R := fun r w' => w'.ownsRow w8.heap.size 5 1 r 24 ((headB n ll).map bv) ∧ Below w8.heap.size w8 w') (HC8.out.mono ?_) wd.heap.size (Nat.le_refl _) ?_
          · rintro e w' ⟨v, rfl, ho, hb⟩
            exact ⟨_, rfl, hb.mono (Nat.le_trans HBW8.out.size HB8.out.size), ho, hb⟩
          rintro r w9 _ ⟨ho9, hb9⟩
          have HF9 := Lib.hid (And.intro (own_lift ho9 (Nat.le_trans HBW8.out.size HB8.out.size)) ((HBW8.out.trans (HB8.out.mono HBW8.out.size)).trans (hb9.mono (Nat.le_trans HBW8.out.size HB8.out.size))))
          clear ho9 hb9
          simp only [Act.put, List.setIfInBounds_toArray, List.set_cons_zero, List.set_cons_succ]
          refine plan_fin (l := ?finWabac) (t := []) ?hfinWabac ?htfinWabac ?_
          case hfinWabac => simp only [pick, List.getElem?_toArray, List.getElem?_cons_succ, List.getElem?_cons_zero]; rfl
          case htfinWabac => rfl
          repeat (go_big_quiet_step (fail))
          refine wpQuiet_nil ?_
          go_wp2_with fail
          go_meet
          case rel => exact HF9.out
        case wayWabb =>
          refine tail_call (vs := #[.int .u64 (ll : Int)]) Try.call20 rfl rfl rfl (R := fun r w' => r = .slice (some ⟨v2.heap.size, 0, none⟩) 8 8 ∧ w'.heap[v2.heap.size]? = some (.cells (rowB (lowB 8 ll)) 5 (0, 0)) ∧ Below v2.heap.size v2 w') ((HPUT.out v2 ll (by omega)).mono ?_) wd.heap.size (Nat.le_refl _) ?_
          · rintro e w' ⟨rfl, hf, hb⟩
            exact ⟨_, rfl, hb.mono cb2.size, rfl, hf, hb⟩
          rintro r v3 _ ⟨rfl, fcv3, hbv3⟩
          have lsv3 : v2.heap.size < v3.heap.size := heap_ltz fcv3
          have cb3 : Below wd.heap.size wd v3 := cb2.trans (hbv3.mono cb2.size)
          have ff9 := ((hbv3.block _ (heap_ltz ff4)).trans ff4)
          have ff10 := ((hbv3.block _ (heap_ltz flv2)).trans flv2)
          simp only [Act.put, List.setIfInBounds_toArray, List.set_cons_zero, List.set_cons_succ]
          refine plan_one (l := []) rfl (wpQuiet_nil ?_)
          obtain ⟨v4, hrv4, fmv4, szv4, kpv4, blv4⟩ := conv_mark (P := Try.prog) v3 31 5 wd.heap.size (rowB markB) 8 8 Try.underlying31 Try.underlying5 ff9
          refine tail_val2 (some 15) rfl rfl rfl (conv_run rfl rfl hrv4) (blv4 wd.heap.size lmv1) ⟨wd.heap.size, Nat.le_refl _, ?_⟩
          have cb4 : Below wd.heap.size wd v4 := cb3.trans (blv4 wd.heap.size lmv1)
          have lsv4 : v4.heap.size = v3.heap.size := szv4
          clear hrv4
          have ne12 : v1.heap.size ≠ wd.heap.size := by omega
          have ff11 := ((kpv4 _ ne12).trans ff10)
          have ne14 : v2.heap.size ≠ wd.heap.size := by omega
          have ff13 := ((kpv4 _ ne14).trans fcv3)
          simp only [Act.put, List.setIfInBounds_toArray, List.set_cons_zero, List.set_cons_succ]
          refine plan_one (l := []) rfl (wpQuiet_nil ?_)
          obtain ⟨w8, hw8⟩ : ∃ w8, v4.alloc (.cells #[.slice (some ⟨wd.heap.size, 0, none⟩) 8 8, .slice (some ⟨v1.heap.size, 0, none⟩) 8 8, .slice (some ⟨v2.heap.size, 0, none⟩) 8 8] 31) = w8 := ⟨_, rfl⟩
          have hb8 : Below v4.heap.size v4 w8 := by rw [← hw8]; exact (Below.refl _ _).alloc (Nat.le_refl _) _
          have n8 : w8.heap[v4.heap.size]? = some (.cells #[.slice (some ⟨wd.heap.size, 0, none⟩) 8 8, .slice (some ⟨v1.heap.size, 0, none⟩) 8 8, .slice (some ⟨v2.heap.size, 0, none⟩) 8 8] 31 (0, 0)) := by rw [← hw8]; exact heap_alloc_new v4 _
          have hd8 : DtRd w8 w8.heap.size (some ⟨v4.heap.size, 0, none⟩) [markB, lowB 8 n, lowB 8 ll] := by
            refine three_rd (a := 8) (b := 8) (c := 8) (A := some ⟨wd.heap.size, 0, none⟩) (B := some ⟨v1.heap.size, 0, none⟩) (C := some ⟨v2.heap.size, 0, none⟩) ?_ ?_ ?_ ?_ ⟨Nat.le_refl _, fun e => by cases e⟩ ⟨by rw [lowB_length]; exact Nat.le_refl _, fun e => by cases e⟩ ⟨by rw [lowB_length]; exact Nat.le_refl _, fun e => by cases e⟩ ⟨by unfold maxLen markB; simp, by rw [lowB_length]; unfold maxLen; omega, by rw [lowB_length]; unfold maxLen; omega⟩
            · rw [lowB_length, lowB_length]; exact n8
            · exact ((fill_mark fmv4).below hb8).more hb8.size
            · exact ((fill_mark ff11).below hb8).more hb8.size
            · exact ((fill_mark ff13).below hb8).more hb8.size
          have hc8 := concat_any w8 (some ⟨v4.heap.size, 0, none⟩) 3 [markB, lowB 8 n, lowB 8 ll] hd8 (by simp) (by simp [markB, lowB_length])
          have e8 : ([markB, lowB 8 n, lowB 8 ll] : List (List UInt8)).flatten = headB n ll := by unfold headB; simp
          rw [e8, headB_len] at hc8
          have HC8 := Lib.hid hc8
          have HBW8 := Lib.hid cb4
          have HB8 := Lib.hid hb8
          refine tail_val2 (some 25) (w1 := w8) (v := .slice (some ⟨v4.heap.size, 0, none⟩) 3 3) rfl rfl rfl (by rw [← hw8]; exact bslice_run rfl rfl (run_three v4 _ _ _ _ _ _ _ _ _)) (hb8.mono HBW8.out.size) ⟨wd.heap.size, Nat.le_refl _, ?_⟩
          clear hw8 hb8 n8 hd8 hc8 e8
          simp only [Act.put, List.setIfInBounds_toArray, List.set_cons_zero, List.set_cons_succ]
          refine plan_one (l := []) rfl (wpQuiet_nil ?_)
          refine tail_call (vs := #[.slice (some ⟨v4.heap.size, 0, none⟩) 3 3]) Try.call19 rfl rfl rfl (R := fun r w' => w'.ownsRow w8.heap.size 5 1 r 24 ((headB n ll).map bv) ∧ Below w8.heap.size w8 w') (HC8.out.mono ?_) wd.heap.size (Nat.le_refl _) ?_
          · rintro e w' ⟨v, rfl, ho, hb⟩
            exact ⟨_, rfl, hb.mono (Nat.le_trans HBW8.out.size HB8.out.size), ho, hb⟩
          rintro r w9 _ ⟨ho9, hb9⟩
          have HF9 := Lib.hid (And.intro (own_lift ho9 (Nat.le_trans HBW8.out.size HB8.out.size)) ((HBW8.out.trans (HB8.out.mono HBW8.out.size)).trans (hb9.mono (Nat.le_trans HBW8.out.size HB8.out.size))))
          clear ho9 hb9
          simp only [Act.put, List.setIfInBounds_toArray, List.set_cons_zero, List.set_cons_succ]
          refine plan_fin (l := ?finWabbc) (t := []) ?hfinWabbc ?htfinWabbc ?_
          case hfinWabbc => simp only [pick, List.getElem?_toArray, List.getElem?_cons_succ, List.getElem?_cons_zero]; rfl
          case htfinWabbc => rfl
          repeat (go_big_quiet_step (fail))
          refine wpQuiet_nil ?_
          go_wp2_with fail
          go_meet
          case rel => exact HF9.out
    case wayWb =>
      refine tail_call (vs := #[.int .u64 (n : Int)]) Try.call20 rfl rfl rfl (R := fun r w' => r = .slice (some ⟨wd.heap.size, 0, none⟩) 8 8 ∧ w'.heap[wd.heap.size]? = some (.cells (rowB (lowB 8 n)) 5 (0, 0)) ∧ Below wd.heap.size wd w') ((HPUT.out wd n (by omega)).mono ?_) wd.heap.size (Nat.le_refl _) ?_
      · rintro e w' ⟨rfl, hf, hb⟩
        exact ⟨_, rfl, hb.mono cb0.size, rfl, hf, hb⟩
      rintro r v1 _ ⟨rfl, flv1, hbv1⟩
      have lsv1 : wd.heap.size < v1.heap.size := heap_ltz flv1
      have cb1 : Below wd.heap.size wd v1 := cb0.trans (hbv1.mono cb0.size)
      simp only [Act.put, List.setIfInBounds_toArray, List.set_cons_zero, List.set_cons_succ]
      refine plan_two (l := []) rfl (wpQuiet_nil ?_)
      refine ⟨?wayWba, ?wayWbb⟩
      case wayWba =>
        refine tail_val2 (some 14) (w1 := v1.alloc (.cells (rowB markB) 5)) (v := .slice (some ⟨v1.heap.size, 0, none⟩) 8 8) rfl rfl rfl (bslice_run rfl rfl (run_mark v1)) ((Below.refl _ _).alloc cb1.size _) ⟨wd.heap.size, Nat.le_refl _, ?_⟩
        obtain ⟨v2, hv2⟩ : ∃ v2, v1.alloc (.cells (rowB markB) 5) = v2 := ⟨_, rfl⟩
        have hbv2 : Below v1.heap.size v1 v2 := by rw [← hv2]; exact (Below.refl _ _).alloc (Nat.le_refl _) _
        have fmv2 : v2.heap[v1.heap.size]? = some (.cells (rowB markB) 5 (0, 0)) := by rw [← hv2]; exact heap_alloc_new v1 _
        have cb2 : Below wd.heap.size wd v2 := cb1.trans (hbv2.mono cb1.size)
        have lmv2 : wd.heap.size ≤ v1.heap.size := cb1.size
        have lsv2 : v1.heap.size < v2.heap.size := heap_ltz fmv2
        rw [hv2]
        clear hv2
        have ff15 := ((hbv2.block _ (heap_ltz flv1)).trans flv1)
        simp only [Act.put, List.setIfInBounds_toArray, List.set_cons_zero, List.set_cons_succ]
        refine plan_two (l := []) rfl (wpQuiet_nil ?_)
        refine ⟨?wayWbaa, ?wayWbab⟩
        case wayWbaa =>
          obtain ⟨v3, hrv3, fmv3, szv3, kpv3, blv3⟩ := conv_mark (P := Try.prog) v2 31 5 v1.heap.size (rowB markB) 8 8 Try.underlying31 Try.underlying5 fmv2
          refine tail_val2 (some 15) rfl rfl rfl (conv_run rfl rfl hrv3) (blv3 wd.heap.size lmv2) ⟨wd.heap.size, Nat.le_refl _, ?_⟩
          have cb3 : Below wd.heap.size wd v3 := cb2.trans (blv3 wd.heap.size lmv2)
          have lsv3 : v3.heap.size = v2.heap.size := szv3
          clear hrv3
          have ne17 : wd.heap.size ≠ v1.heap.size := by omega
          have ff16 := ((kpv3 _ ne17).trans ff15)
          simp only [Act.put, List.setIfInBounds_toArray, List.set_cons_zero, List.set_cons_succ]
          refine plan_one (l := []) rfl (wpQuiet_nil ?_)
          refine tail_call (vs := #[.int .u64 (ll : Int)]) Try.call20 rfl rfl rfl (R := fun r w' => r = .slice (some ⟨v3.heap.size, 0, none⟩) 8 8 ∧ w'.heap[v3.heap.size]? = some (.cells (rowB (lowB 8 ll)) 5 (0, 0)) ∧ Below v3.heap.size v3 w') ((HPUT.out v3 ll (by omega)).mono ?_) wd.heap.size (Nat.le_refl _) ?_
          · rintro e w' ⟨rfl, hf, hb⟩
            exact ⟨_, rfl, hb.mono cb3.size, rfl, hf, hb⟩
          rintro r v4 _ ⟨rfl, fcv4, hbv4⟩
          have lsv4 : v3.heap.size < v4.heap.size := heap_ltz fcv4
          have cb4 : Below wd.heap.size wd v4 := cb3.trans (hbv4.mono cb3.size)
          have ff18 := ((hbv4.block _ (heap_ltz fmv3)).trans fmv3)
          have ff19 := ((hbv4.block _ (heap_ltz ff16)).trans ff16)
          simp only [Act.put, List.setIfInBounds_toArray, List.set_cons_zero, List.set_cons_succ]
          refine plan_one (l := []) rfl (wpQuiet_nil ?_)
          obtain ⟨w8, hw8⟩ : ∃ w8, v4.alloc (.cells #[.slice (some ⟨v1.heap.size, 0, none⟩) 8 8, .slice (some ⟨wd.heap.size, 0, none⟩) 8 8, .slice (some ⟨v3.heap.size, 0, none⟩) 8 8] 31) = w8 := ⟨_, rfl⟩
          have hb8 : Below v4.heap.size v4 w8 := by rw [← hw8]; exact (Below.refl _ _).alloc (Nat.le_refl _) _
          have n8 : w8.heap[v4.heap.size]? = some (.cells #[.slice (some ⟨v1.heap.size, 0, none⟩) 8 8, .slice (some ⟨wd.heap.size, 0, none⟩) 8 8, .slice (some ⟨v3.heap.size, 0, none⟩) 8 8] 31 (0, 0)) := by rw [← hw8]; exact heap_alloc_new v4 _
          have hd8 : DtRd w8 w8.heap.size (some ⟨v4.heap.size, 0, none⟩) [markB, lowB 8 n, lowB 8 ll] := by
            refine three_rd (a := 8) (b := 8) (c := 8) (A := some ⟨v1.heap.size, 0, none⟩) (B := some ⟨wd.heap.size, 0, none⟩) (C := some ⟨v3.heap.size, 0, none⟩) ?_ ?_ ?_ ?_ ⟨Nat.le_refl _, fun e => by cases e⟩ ⟨by rw [lowB_length]; exact Nat.le_refl _, fun e => by cases e⟩ ⟨by rw [lowB_length]; exact Nat.le_refl _, fun e => by cases e⟩ ⟨by unfold maxLen markB; simp, by rw [lowB_length]; unfold maxLen; omega, by rw [lowB_length]; unfold maxLen; omega⟩
            · rw [lowB_length, lowB_length]; exact n8
            · exact ((fill_mark ff18).below hb8).more hb8.size
            · exact ((fill_mark ff19).below hb8).more hb8.size
            · exact ((fill_mark fcv4).below hb8).more hb8.size
          have hc8 := concat_any w8 (some ⟨v4.heap.size, 0, none⟩) 3 [markB, lowB 8 n, lowB 8 ll] hd8 (by simp) (by simp [markB, lowB_length])
          have e8 : ([markB, lowB 8 n, lowB 8 ll] : List (List UInt8)).flatten = headB n ll := by unfold headB; simp
          rw [e8, headB_len] at hc8
          have HC8 := Lib.hid hc8
          have HBW8 := Lib.hid cb4
          have HB8 := Lib.hid hb8
          refine tail_val2 (some 25) (w1 := w8) (v := .slice (some ⟨v4.heap.size, 0, none⟩) 3 3) rfl rfl rfl (by rw [← hw8]; exact bslice_run rfl rfl (run_three v4 _ _ _ _ _ _ _ _ _)) (hb8.mono HBW8.out.size) ⟨wd.heap.size, Nat.le_refl _, ?_⟩
          clear hw8 hb8 n8 hd8 hc8 e8
          simp only [Act.put, List.setIfInBounds_toArray, List.set_cons_zero, List.set_cons_succ]
          refine plan_one (l := []) rfl (wpQuiet_nil ?_)
          refine tail_call (vs := #[.slice (some ⟨v4.heap.size, 0, none⟩) 3 3]) Try.call19 rfl rfl rfl (R := fun r w' => w'.ownsRow w8.heap.size 5 1 r 24 ((headB n ll).map bv) ∧ Below w8.heap.size w8 w') (HC8.out.mono ?_) wd.heap.size (Nat.le_refl _) ?_
          · rintro e w' ⟨v, rfl, ho, hb⟩
            exact ⟨_, rfl, hb.mono (Nat.le_trans HBW8.out.size HB8.out.size), ho, hb⟩
          rintro r w9 _ ⟨ho9, hb9⟩
          have HF9 := Lib.hid (And.intro (own_lift ho9 (Nat.le_trans HBW8.out.size HB8.out.size)) ((HBW8.out.trans (HB8.out.mono HBW8.out.size)).trans (hb9.mono (Nat.le_trans HBW8.out.size HB8.out.size))))
          clear ho9 hb9
          simp only [Act.put, List.setIfInBounds_toArray, List.set_cons_zero, List.set_cons_succ]
          refine plan_fin (l := ?finWbaac) (t := []) ?hfinWbaac ?htfinWbaac ?_
          case hfinWbaac => simp only [pick, List.getElem?_toArray, List.getElem?_cons_succ, List.getElem?_cons_zero]; rfl
          case htfinWbaac => rfl
          repeat (go_big_quiet_step (fail))
          refine wpQuiet_nil ?_
          go_wp2_with fail
          go_meet
          case rel => exact HF9.out
        case wayWbab =>
          refine tail_call (vs := #[.int .u64 (ll : Int)]) Try.call20 rfl rfl rfl (R := fun r w' => r = .slice (some ⟨v2.heap.size, 0, none⟩) 8 8 ∧ w'.heap[v2.heap.size]? = some (.cells (rowB (lowB 8 ll)) 5 (0, 0)) ∧ Below v2.heap.size v2 w') ((HPUT.out v2 ll (by omega)).mono ?_) wd.heap.size (Nat.le_refl _) ?_
          · rintro e w' ⟨rfl, hf, hb⟩
            exact ⟨_, rfl, hb.mono cb2.size, rfl, hf, hb⟩
          rintro r v3 _ ⟨rfl, fcv3, hbv3⟩
          have lsv3 : v2.heap.size < v3.heap.size := heap_ltz fcv3
          have cb3 : Below wd.heap.size wd v3 := cb2.trans (hbv3.mono cb2.size)
          have ff20 := ((hbv3.block _ (heap_ltz fmv2)).trans fmv2)
          have ff21 := ((hbv3.block _ (heap_ltz ff15)).trans ff15)
          simp only [Act.put, List.setIfInBounds_toArray, List.set_cons_zero, List.set_cons_succ]
          refine plan_one (l := []) rfl (wpQuiet_nil ?_)
          obtain ⟨v4, hrv4, fmv4, szv4, kpv4, blv4⟩ := conv_mark (P := Try.prog) v3 31 5 v1.heap.size (rowB markB) 8 8 Try.underlying31 Try.underlying5 ff20
          refine tail_val2 (some 15) rfl rfl rfl (conv_run rfl rfl hrv4) (blv4 wd.heap.size lmv2) ⟨wd.heap.size, Nat.le_refl _, ?_⟩
          have cb4 : Below wd.heap.size wd v4 := cb3.trans (blv4 wd.heap.size lmv2)
          have lsv4 : v4.heap.size = v3.heap.size := szv4
          clear hrv4
          have ne23 : wd.heap.size ≠ v1.heap.size := by omega
          have ff22 := ((kpv4 _ ne23).trans ff21)
          have ne25 : v2.heap.size ≠ v1.heap.size := by omega
          have ff24 := ((kpv4 _ ne25).trans fcv3)
          simp only [Act.put, List.setIfInBounds_toArray, List.set_cons_zero, List.set_cons_succ]
          refine plan_one (l := []) rfl (wpQuiet_nil ?_)
          obtain ⟨w8, hw8⟩ : ∃ w8, v4.alloc (.cells #[.slice (some ⟨v1.heap.size, 0, none⟩) 8 8, .slice (some ⟨wd.heap.size, 0, none⟩) 8 8, .slice (some ⟨v2.heap.size, 0, none⟩) 8 8] 31) = w8 := ⟨_, rfl⟩
          have hb8 : Below v4.heap.size v4 w8 := by rw [← hw8]; exact (Below.refl _ _).alloc (Nat.le_refl _) _
          have n8 : w8.heap[v4.heap.size]? = some (.cells #[.slice (some ⟨v1.heap.size, 0, none⟩) 8 8, .slice (some ⟨wd.heap.size, 0, none⟩) 8 8, .slice (some ⟨v2.heap.size, 0, none⟩) 8 8] 31 (0, 0)) := by rw [← hw8]; exact heap_alloc_new v4 _
          have hd8 : DtRd w8 w8.heap.size (some ⟨v4.heap.size, 0, none⟩) [markB, lowB 8 n, lowB 8 ll] := by
            refine three_rd (a := 8) (b := 8) (c := 8) (A := some ⟨v1.heap.size, 0, none⟩) (B := some ⟨wd.heap.size, 0, none⟩) (C := some ⟨v2.heap.size, 0, none⟩) ?_ ?_ ?_ ?_ ⟨Nat.le_refl _, fun e => by cases e⟩ ⟨by rw [lowB_length]; exact Nat.le_refl _, fun e => by cases e⟩ ⟨by rw [lowB_length]; exact Nat.le_refl _, fun e => by cases e⟩ ⟨by unfold maxLen markB; simp, by rw [lowB_length]; unfold maxLen; omega, by rw [lowB_length]; unfold maxLen; omega⟩
            · rw [lowB_length, lowB_length]; exact n8
            · exact ((fill_mark fmv4).below hb8).more hb8.size
            · exact ((fill_mark ff22).below hb8).more hb8.size
            · exact ((fill_mark ff24).below hb8).more hb8.size
          have hc8 := concat_any w8 (some ⟨v4.heap.size, 0, none⟩) 3 [markB, lowB 8 n, lowB 8 ll] hd8 (by simp) (by simp [markB, lowB_length])
          have e8 : ([markB, lowB 8 n, lowB 8 ll] : List (List UInt8)).flatten = headB n ll := by unfold headB; simp
          rw [e8, headB_len] at hc8
          have HC8 := Lib.hid hc8
          have HBW8 := Lib.hid cb4
          have HB8 := Lib.hid hb8
          refine tail_val2 (some 25) (w1 := w8) (v := .slice (some ⟨v4.heap.size, 0, none⟩) 3 3) rfl rfl rfl (by rw [← hw8]; exact bslice_run rfl rfl (run_three v4 _ _ _ _ _ _ _ _ _)) (hb8.mono HBW8.out.size) ⟨wd.heap.size, Nat.le_refl _, ?_⟩
          clear hw8 hb8 n8 hd8 hc8 e8
          simp only [Act.put, List.setIfInBounds_toArray, List.set_cons_zero, List.set_cons_succ]
          refine plan_one (l := []) rfl (wpQuiet_nil ?_)
          refine tail_call (vs := #[.slice (some ⟨v4.heap.size, 0, none⟩) 3 3]) Try.call19 rfl rfl rfl (R := fun r w' => w'.ownsRow w8.heap.size 5 1 r 24 ((headB n ll).map bv) ∧ Below w8.heap.size w8 w') (HC8.out.mono ?_) wd.heap.size (Nat.le_refl _) ?_
          · rintro e w' ⟨v, rfl, ho, hb⟩
            exact ⟨_, rfl, hb.mono (Nat.le_trans HBW8.out.size HB8.out.size), ho, hb⟩
          rintro r w9 _ ⟨ho9, hb9⟩
          have HF9 := Lib.hid (And.intro (own_lift ho9 (Nat.le_trans HBW8.out.size HB8.out.size)) ((HBW8.out.trans (HB8.out.mono HBW8.out.size)).trans (hb9.mono (Nat.le_trans HBW8.out.size HB8.out.size))))
          clear ho9 hb9
          simp only [Act.put, List.setIfInBounds_toArray, List.set_cons_zero, List.set_cons_succ]
          refine plan_fin (l := ?finWbabc) (t := []) ?hfinWbabc ?htfinWbabc ?_
          case hfinWbabc => simp only [pick, List.getElem?_toArray, List.getElem?_cons_succ, List.getElem?_cons_zero]; rfl
          case htfinWbabc => rfl
          repeat (go_big_quiet_step (fail))
          refine wpQuiet_nil ?_
          go_wp2_with fail
          go_meet
          case rel => exact HF9.out
      case wayWbb =>
        refine tail_call (vs := #[.int .u64 (ll : Int)]) Try.call20 rfl rfl rfl (R := fun r w' => r = .slice (some ⟨v1.heap.size, 0, none⟩) 8 8 ∧ w'.heap[v1.heap.size]? = some (.cells (rowB (lowB 8 ll)) 5 (0, 0)) ∧ Below v1.heap.size v1 w') ((HPUT.out v1 ll (by omega)).mono ?_) wd.heap.size (Nat.le_refl _) ?_
        · rintro e w' ⟨rfl, hf, hb⟩
          exact ⟨_, rfl, hb.mono cb1.size, rfl, hf, hb⟩
        rintro r v2 _ ⟨rfl, fcv2, hbv2⟩
        have lsv2 : v1.heap.size < v2.heap.size := heap_ltz fcv2
        have cb2 : Below wd.heap.size wd v2 := cb1.trans (hbv2.mono cb1.size)
        have ff26 := ((hbv2.block _ (heap_ltz flv1)).trans flv1)
        simp only [Act.put, List.setIfInBounds_toArray, List.set_cons_zero, List.set_cons_succ]
        refine plan_one (l := []) rfl (wpQuiet_nil ?_)
        refine tail_val2 (some 14) (w1 := v2.alloc (.cells (rowB markB) 5)) (v := .slice (some ⟨v2.heap.size, 0, none⟩) 8 8) rfl rfl rfl (bslice_run rfl rfl (run_mark v2)) ((Below.refl _ _).alloc cb2.size _) ⟨wd.heap.size, Nat.le_refl _, ?_⟩
        obtain ⟨v3, hv3⟩ : ∃ v3, v2.alloc (.cells (rowB markB) 5) = v3 := ⟨_, rfl⟩
        have hbv3 : Below v2.heap.size v2 v3 := by rw [← hv3]; exact (Below.refl _ _).alloc (Nat.le_refl _) _
        have fmv3 : v3.heap[v2.heap.size]? = some (.cells (rowB markB) 5 (0, 0)) := by rw [← hv3]; exact heap_alloc_new v2 _
        have cb3 : Below wd.heap.size wd v3 := cb2.trans (hbv3.mono cb2.size)
        have lmv3 : wd.heap.size ≤ v2.heap.size := cb2.size
        have lsv3 : v2.heap.size < v3.heap.size := heap_ltz fmv3
        rw [hv3]
        clear hv3
        have ff27 := ((hbv3.block _ (heap_ltz ff26)).trans ff26)
        have ff28 := ((hbv3.block _ (heap_ltz fcv2)).trans fcv2)
        simp only [Act.put, List.setIfInBounds_toArray, List.set_cons_zero, List.set_cons_succ]
        refine plan_one (l := []) rfl (wpQuiet_nil ?_)
        obtain ⟨v4, hrv4, fmv4, szv4, kpv4, blv4⟩ := conv_mark (P := Try.prog) v3 31 5 v2.heap.size (rowB markB) 8 8 Try.underlying31 Try.underlying5 fmv3
        refine tail_val2 (some 15) rfl rfl rfl (conv_run rfl rfl hrv4) (blv4 wd.heap.size lmv3) ⟨wd.heap.size, Nat.le_refl _, ?_⟩
        have cb4 : Below wd.heap.size wd v4 := cb3.trans (blv4 wd.heap.size lmv3)
        have lsv4 : v4.heap.size = v3.heap.size := szv4
        clear hrv4
        have ne30 : wd.heap.size ≠ v2.heap.size := by omega
        have ff29 := ((kpv4 _ ne30).trans ff27)
        have ne32 : v1.heap.size ≠ v2.heap.size := by omega
        have ff31 := ((kpv4 _ ne32).trans ff28)
        simp only [Act.put, List.setIfInBounds_toArray, List.set_cons_zero, List.set_cons_succ]
        refine plan_one (l := []) rfl (wpQuiet_nil ?_)
        obtain ⟨w8, hw8⟩ : ∃ w8, v4.alloc (.cells #[.slice (some ⟨v2.heap.size, 0, none⟩) 8 8, .slice (some ⟨wd.heap.size, 0, none⟩) 8 8, .slice (some ⟨v1.heap.size, 0, none⟩) 8 8] 31) = w8 := ⟨_, rfl⟩
        have hb8 : Below v4.heap.size v4 w8 := by rw [← hw8]; exact (Below.refl _ _).alloc (Nat.le_refl _) _
        have n8 : w8.heap[v4.heap.size]? = some (.cells #[.slice (some ⟨v2.heap.size, 0, none⟩) 8 8, .slice (some ⟨wd.heap.size, 0, none⟩) 8 8, .slice (some ⟨v1.heap.size, 0, none⟩) 8 8] 31 (0, 0)) := by rw [← hw8]; exact heap_alloc_new v4 _
        have hd8 : DtRd w8 w8.heap.size (some ⟨v4.heap.size, 0, none⟩) [markB, lowB 8 n, lowB 8 ll] := by
          refine three_rd (a := 8) (b := 8) (c := 8) (A := some ⟨v2.heap.size, 0, none⟩) (B := some ⟨wd.heap.size, 0, none⟩) (C := some ⟨v1.heap.size, 0, none⟩) ?_ ?_ ?_ ?_ ⟨Nat.le_refl _, fun e => by cases e⟩ ⟨by rw [lowB_length]; exact Nat.le_refl _, fun e => by cases e⟩ ⟨by rw [lowB_length]; exact Nat.le_refl _, fun e => by cases e⟩ ⟨by unfold maxLen markB; simp, by rw [lowB_length]; unfold maxLen; omega, by rw [lowB_length]; unfold maxLen; omega⟩
          · rw [lowB_length, lowB_length]; exact n8
          · exact ((fill_mark fmv4).below hb8).more hb8.size
          · exact ((fill_mark ff29).below hb8).more hb8.size
          · exact ((fill_mark ff31).below hb8).more hb8.size
        have hc8 := concat_any w8 (some ⟨v4.heap.size, 0, none⟩) 3 [markB, lowB 8 n, lowB 8 ll] hd8 (by simp) (by simp [markB, lowB_length])
        have e8 : ([markB, lowB 8 n, lowB 8 ll] : List (List UInt8)).flatten = headB n ll := by unfold headB; simp
        rw [e8, headB_len] at hc8
        have HC8 := Lib.hid hc8
        have HBW8 := Lib.hid cb4
        have HB8 := Lib.hid hb8
        refine tail_val2 (some 25) (w1 := w8) (v := .slice (some ⟨v4.heap.size, 0, none⟩) 3 3) rfl rfl rfl (by rw [← hw8]; exact bslice_run rfl rfl (run_three v4 _ _ _ _ _ _ _ _ _)) (hb8.mono HBW8.out.size) ⟨wd.heap.size, Nat.le_refl _, ?_⟩
        clear hw8 hb8 n8 hd8 hc8 e8
        simp only [Act.put, List.setIfInBounds_toArray, List.set_cons_zero, List.set_cons_succ]
        refine plan_one (l := []) rfl (wpQuiet_nil ?_)
        refine tail_call (vs := #[.slice (some ⟨v4.heap.size, 0, none⟩) 3 3]) Try.call19 rfl rfl rfl (R := fun r w' => w'.ownsRow w8.heap.size 5 1 r 24 ((headB n ll).map bv) ∧ Below w8.heap.size w8 w') (HC8.out.mono ?_) wd.heap.size (Nat.le_refl _) ?_
        · rintro e w' ⟨v, rfl, ho, hb⟩
          exact ⟨_, rfl, hb.mono (Nat.le_trans HBW8.out.size HB8.out.size), ho, hb⟩
        rintro r w9 _ ⟨ho9, hb9⟩
        have HF9 := Lib.hid (And.intro (own_lift ho9 (Nat.le_trans HBW8.out.size HB8.out.size)) ((HBW8.out.trans (HB8.out.mono HBW8.out.size)).trans (hb9.mono (Nat.le_trans HBW8.out.size HB8.out.size))))
        clear ho9 hb9
        simp only [Act.put, List.setIfInBounds_toArray, List.set_cons_zero, List.set_cons_succ]
        refine plan_fin (l := ?finWbbcc) (t := []) ?hfinWbbcc ?htfinWbbcc ?_
        case hfinWbbcc => simp only [pick, List.getElem?_toArray, List.getElem?_cons_succ, List.getElem?_cons_zero]; rfl
        case htfinWbbcc => rfl
        repeat (go_big_quiet_step (fail))
        refine wpQuiet_nil ?_
        go_wp2_with fail
        go_meet
        case rel => exact HF9.out
  case rest =>
    obtain ⟨ho, hb⟩ := hcut
    have HO := Lib.hid ho
    have HBC := Lib.hid hb
    clear ho hb
    have HW1S := Lib.hid (wsum_any wc wd.heap.size _ (headB n ll) 24 0 (headB_len n ll) HO.out HBC.out.size (by omega) (by omega) (by omega))
    go_wp2_with fail
    refine HW1S.out.mono ?_
    rintro e w2 ⟨x2, rfl, ho2, hb2⟩
    have HO2 : Hid (w2.ownsRow wd.heap.size 5 1 x2 28 ((putA n ll).map bv)) := ho2
    have HB2 := Lib.hid (HBC.out.trans hb2)
    clear ho2 hb2 HW1S HO HBC
    have e1 := (HB2.out.cell (p := ⟨w.heap.size, 1, none⟩) hld).trans c1
    have hl2 : w.heap.size < w2.heap.size := Nat.lt_of_lt_of_le hld HB2.out.size
    go_wp2
    go_loopw [4, 32] (fun v t wr => ∃ (j : Nat), t = .int .i64 (j : Int) ∧ j ≤ ll ∧ wr.ownsRow wd.heap.size 5 1 v (28 + (tagsB (l.take j)).length) ((putA n ll ++ tagsB (l.take j)).map bv) ∧ Below wd.heap.size wd wr) (fun _ t _ => ll - (intOf t).toNat)
    case atStart =>
      refine ⟨0, rfl, Nat.zero_le _, ?_, HB2.out⟩
      have e : putA n ll ++ tagsB (l.take 0) = putA n ll := by rw [List.take_zero]; exact List.append_nil _
      rw [e]
      exact HO2.out
    case round =>
      obtain ⟨j, rfl, hj, hown, hb⟩ := hrel
      by_cases hlt : j < ll
      · obtain ⟨x, hx⟩ : ∃ x, l[j]? = some x := ⟨l[j]'(by rw [HLL.out]; exact hlt), List.getElem?_eq_getElem _⟩
        obtain ⟨b2, o, rfl, hbb, hcl⟩ := HR.out (by rw [HLL.out]; omega)
        obtain ⟨p0, p1, p2, hxo, hxs⟩ := hcl j x hx
        have hb1w := HBD.out.trans (hb.mono HBD.out.size)
        have r0 := (hb1w.cell (p := ⟨b2, o + j * 3, none⟩) hbb).trans p0
        have r1 := (hb1w.cell (p := ⟨b2, o + j * 3 + 1, none⟩) hbb).trans p1
        have r2 := (hb1w.cell (p := ⟨b2, o + j * 3 + 2, none⟩) hbb).trans p2
        have HTG := Lib.hid (tagsB_take hx)
        have HT1 := HPT.out j
        obtain ⟨xo, xs, xu⟩ := x
        dsimp only at p0 p1 p2 r0 r1 r2 hxs HTG
        obtain ⟨w4, hw4⟩ : ∃ w4, wr.alloc (.cells #[.int .i64 xo, .int .i64 xs, .bool xu] 50) = w4 := ⟨_, rfl⟩
        have hb4 : Below wr.heap.size wr w4 := by rw [← hw4]; exact (Below.refl _ _).alloc (Nat.le_refl _) _
        have n4 : w4.heap[wr.heap.size]? = some (.cells #[.int .i64 xo, .int .i64 xs, .bool xu] 50 (0, 0)) := by rw [← hw4]; exact heap_alloc_new wr _
        obtain ⟨x0, x1, x2⟩ := rk_cells n4
        have hl4 := heap_lt1 n4
        obtain ⟨pk, hpk⟩ : ∃ pk, packN xs xu = pk := ⟨_, rfl⟩
        have hpkl : pk < 18446744073709551616 := by have := packN_lt xs xu; omega
        have HPK := Lib.hid (fun W => tpack_any (w := W) xs xu hxs pk hpk)
        have HTB : Hid (tagB ⟨xo, xs, xu⟩ = lowB 8 pk) := (show _ = _ by unfold tagB; dsimp only; rw [hpk])
        obtain ⟨tn, htn⟩ : ∃ tn, (tagsB (l.take j)).length = tn := ⟨_, rfl⟩
        rw [htn] at hown HT1
        have HTN := Lib.hid htn
        have HO4 := Lib.hid (own_below hown hb4)
        have HB4 := Lib.hid (hb.trans (hb4.mono hb.size))
        have HW4 := Lib.hid hw4
        clear hx hcl p0 p1 p2 hown hb hb1w hb4 n4 hw4 hpk htn
        go_wp2_with (first | (rw [HW4.out]) | fail)
        refine (HPK.out _).mono ?_
        rintro e w5 ⟨rfl, rfl⟩
        go_wp2_with fail
        refine (HPUT.out _ pk hpkl).mono ?_
        rintro e w6 ⟨rfl, hf6, hb6⟩
        have HR6 : Hid (Rd w6 w6.heap.size (some ⟨w4.heap.size, 0, none⟩) 8 (lowB 8 pk)) := (show Rd _ _ _ _ _ by have := hf6.reads; rw [lowB_length] at this; exact this)
        have HO6 := Lib.hid (own_below HO4.out hb6)
        have HB6 := Lib.hid (HB4.out.trans (hb6.mono HB4.out.size))
        clear hf6 hb6
        go_wp2_with (first
          | (at_builtin; go_must (refine append_bytes rfl (.tmp 36) (.tmp 42) 31 5 rfl Try.underlying31 u8_inf4 wd.heap.size _ (28 + tn) (putA n ll ++ tagsB (l.take j)) rfl HO6.out _ (some ⟨w4.heap.size, 0, none⟩) 8 8 (lowB 8 pk) rfl HR6.out (fun e => by cases e) (by omega) HB6.out.size ?_); intro x7 w7 own7 hb7 gr7;
             have HX7 : Hid (w7.ownsRow wd.heap.size 5 1 x7 ((28 + tn) + 8) (((putA n ll ++ tagsB (l.take j)) ++ (lowB 8 pk)).map bv) ∧ Below wd.heap.size w6 w7) := ⟨own7, hb7⟩; clear own7 hb7 gr7)
          | fail)
        go_roundw
        case rel =>
          refine ⟨j + 1, by go_num, by omega, ?_, HB6.out.trans HX7.out.2⟩
          rw [HTG.out, HTB.out, List.length_append, HTN.out, lowB_length, ← List.append_assoc]
          exact HX7.out.1
        case measure => simp only [intOf]; omega
      · have e : l.take j = l := List.take_of_length_le (by rw [HLL.out]; omega)
        rw [e, HTL.out] at hown
        have HWS := Lib.hid (wsum_any wr wd.heap.size _ (putA n ll ++ tagsB l) (28 + 8 * ll) 28 (by rw [List.length_append, HAL.out, HTL.out]) hown hb.size (by omega) (by omega) (by omega))
        rw [HPTE.out] at HWS
        have HB := Lib.hid hb
        clear hown hb e
        go_wp2_with fail
        refine HWS.out.mono ?_
        rintro e w5 ⟨x5, rfl, ho5, hb5⟩
        rw [HTE.out] at ho5
        have hT100 : T ≤ 10000 := by have := HTE.out; omega
        have hT0 : 0 < T := by have := HTE.out; omega
        have hb5' := HB.out.trans hb5
        obtain ⟨A5, c5, rfl, hA5⟩ := own_slc ho5
        have HO5 := Lib.hid ho5
        have HB5 := Lib.hid hb5'
        have e2 := (hb5'.cell (p := ⟨w.heap.size, 2, none⟩) hld).trans c2
        have hl5 : w.heap.size < w5.heap.size := Nat.lt_of_lt_of_le hld hb5'.size
        clear ho5 hb5 hb5' HWS
        go_wp2
        go_loopw [4, 52] (fun v t wr => ∃ (j : Nat), t = .int .i64 (j : Int) ∧ j ≤ dl ∧ wr.ownsRow wd.heap.size 5 1 v (T + (d.take j).flatten.length) ((putT n l ++ (d.take j).flatten).map bv) ∧ Below wd.heap.size wd wr) (fun _ t _ => dl - (intOf t).toNat)
        case atStart =>
          refine ⟨0, rfl, Nat.zero_le _, ?_, HB5.out⟩
          have e : putT n l ++ (d.take 0).flatten = putT n l := by rw [List.take_zero]; exact List.append_nil _
          rw [e]
          exact HO5.out
        case round =>
          obtain ⟨i, rfl, hi, hown, hb⟩ := hrel
          have hb1w := HBD.out.trans (hb.mono HBD.out.size)
          by_cases hlt2 : i < dl
          · obtain ⟨y, hy⟩ : ∃ y, d[i]? = some y := ⟨d[i]'(by rw [HDLL.out]; exact hlt2), List.getElem?_eq_getElem _⟩
            obtain ⟨b, o, rfl, hbb, hc⟩ := HD.out (by rw [HDLL.out]; omega)
            obtain ⟨A', k', z0, hrd, _, _, hA⟩ := hc i y hy
            have z1 := (hb1w.cell (p := ⟨b, o + i, none⟩) hbb).trans z0
            have hs1 := HFT.out (i + 1)
            rw [flat_take hy, List.length_append] at hs1
            have HFT2 := Lib.hid (flat_take hy)
            have HRD := Lib.hid ((hrd.below hb1w).more hb1w.size)
            obtain ⟨yn, hn'⟩ : ∃ yn, y.length = yn := ⟨_, rfl⟩
            have HYN := Lib.hid hn'
            obtain ⟨q, hq⟩ : ∃ q, (d.take i).flatten.length = q := ⟨_, rfl⟩
            rw [hq] at hown hs1
            have HQ := Lib.hid hq
            rw [hn'] at z0 z1 hs1 HRD
            have HO := Lib.hid hown
            have HB6 := Lib.hid hb
            clear hc hy hn' hown hb hrd hq hb1w z0
            go_wp2_with (first
              | (at_builtin; go_must (refine append_bytes rfl (.tmp 56) (.tmp 57) 31 5 rfl Try.underlying31 u8_inf4 wd.heap.size _ (T + q) (putT n l ++ (d.take i).flatten) rfl HO.out _ A' yn k' y rfl HRD.out hA (by omega) HB6.out.size ?_); intro x30 w30 own30 hb30 gr30;
                 have HX30 : Hid (w30.ownsRow wd.heap.size 5 1 x30 ((T + q) + yn) (((putT n l ++ (d.take i).flatten) ++ y).map bv) ∧ Below wd.heap.size wr w30) := ⟨own30, hb30⟩; clear own30 hb30 gr30)
              | fail)
            go_roundw
            case rel =>
              refine ⟨i + 1, by go_num, by omega, ?_, HB6.out.trans HX30.out.2⟩
              rw [HFT2.out, List.length_append, HQ.out, HYN.out, ← List.append_assoc, ← Nat.add_assoc]
              exact HX30.out.1
            case measure => simp only [intOf]; omega
          · have e : d.take i = d := List.take_of_length_le (by rw [HDLL.out]; omega)
            rw [e, HFL.out] at hown
            have HWS2 := Lib.hid (wsum_any wr wd.heap.size _ (putT n l ++ d.flatten) (T + fl) T (by rw [List.length_append, HFL.out, HTL2.out]) hown hb.size (by omega) (by omega) (by omega))
            rw [HPDE.out] at HWS2
            have HB6 := Lib.hid hb
            clear hown hb e hb1w
            go_wp2_with fail
            refine HWS2.out.mono ?_
            rintro e w7 ⟨x7, rfl, ho7, hb7⟩
            have HB7 := Lib.hid (HB6.out.trans hb7)
            have HWS3 := Lib.hid (wsum_any w7 wd.heap.size x7 (putD n l d) (T + fl + 4) 0 (by rw [HDL2.out]; have := HTE.out; omega) ho7 HB7.out.size (by omega) (by omega) (by omega))
            clear ho7 hb7 HWS2
            go_wp2_with fail
            refine HWS3.out.mono ?_
            rintro e w8 ⟨x8, rfl, ho8, hb8⟩
            have hfin : w8.ownsRow w.heap.size 5 1 x8 (40 + 8 * ll + fl) ((putB n l d).map bv) := by
              rw [show T + fl + 4 + 4 = 40 + 8 * ll + fl by have := HTE.out; omega] at ho8
              exact own_lift ho8 (Nat.le_trans HB1.out.size HBD.out.size)
            have hbfin : Below w.heap.size w w8 := HB1.out.trans ((HBD.out.trans ((HB7.out.trans hb8).mono HBD.out.size)).mono HB1.out.size)
            obtain ⟨A8, c8, rfl, _⟩ := own_slc hfin
            have HFIN := Lib.hid (And.intro hfin hbfin)
            clear hfin hbfin ho8 hb8
            go_wp2
            go_ret2
            exact ⟨A8, c8, rfl, HFIN.out⟩
end Go.Proofs.Ytlhahibdddcpfaa
