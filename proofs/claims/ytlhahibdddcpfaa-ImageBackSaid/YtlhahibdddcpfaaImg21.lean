/- The document's Get where head and tags' sum are right (genimg21.py). -/
import Derived.Test.YtlhahibdddcpfaaImg20
import Derived.Test.YtlhahibdddcpfaaImg5
namespace Go.Proofs.Ytlhahibdddcpfaa
open Go.RowKit

theorem bk_info21 : (Try.prog.info? 50).map (fun i => (i.zero, i.size, i.bytes)) = some (some (.agg #[.int .i64 0, .int .i64 0, .bool false]), 3, 24) := by kernel_rfl
theorem run_one_b (w : World) (o s : Int) (u : Bool) : (Instr.buildSlice 22 1 #[(0, .agg #[.int .i64 o, .int .i64 s, .bool u])]).run Try.prog w = .ok (.slice (some ⟨w.heap.size, 0, none⟩) 1 1) (w.alloc (.cells #[.int .i64 o, .int .i64 s, .bool u] 50)) := by
  obtain ⟨i0, hi, hz0, hz1, hz2⟩ := info_parts bk_info21
  refine run_buildSlice w 22 50 1 _ _ i0 _ Try.underlying22 hi hz0 (by omega) (by omega) ?_
  rw [hz1]
  have e : Array.range (1 * 3) = #[0, 1, 2] := by decide
  rw [e]
  simp [Instr.fill, Value.cells]
/-- What Get tells of bytes whose getG is G. -/
def GotR (w : World) (G : Nat × Nat × List Rk × List (List UInt8)) (e : Ending) (w' : World) : Prop :=
  ∃ A1 A2 c1 c2, e = .returned (.tuple #[.agg #[.int .i64 (G.2.1 : Int), .slice A1 G.2.2.1.length c1, .slice A2 G.2.2.2.length c2], .int .i64 (G.1 : Int)]) ∧ RkRd w' w'.heap.size A1 G.2.2.1 ∧ DtRd w' w'.heap.size A2 G.2.2.2 ∧ Below w.heap.size w w'
theorem GotR.err {w w' : World} {k : Nat} {e : Ending} (he : e = .returned (.tuple #[.agg #[.int .i64 0, .slice none 0 0, .slice none 0 0], .int .i64 (k : Int)])) (hb : Below w.heap.size w w') : GotR w (k, 0, [], []) e w' :=
  ⟨none, none, 0, 0, he, fun h => absurd h (by simp), fun h => absurd h (by simp), hb⟩
theorem run_mk21 (n : Nat) (hn : n ≤ 1000000) (z : List UInt8) (hz : List.replicate n (0 : UInt8) = z) (W : World) : (Instr.makeSlice 31 (.int .i64 (n : Int)) (.int .i64 (n : Int))).run Try.prog W = .ok (.slice (some ⟨W.heap.size, 0, none⟩) n n) (W.alloc (.cells (rowB z) 5)) := by
  have := run_make_row' (P := Try.prog) 31 5 (.int .u8 0) 1 Try.underlying31 u8_info rfl .i64 .i64 n (by omega) (by omega) W
  rw [rowB_zeros, hz] at this
  exact this
theorem mk_run21 {P : Program} {o : Oper} {a : Act} {w w1 : World} {v L C : Value} {t : TypeId} {l c : Operand} (ho : o.op = .makeSlice t l c) (hl : a.eval l = L) (hc : a.eval c = C)
    (hr : (Instr.makeSlice t L C).run P w = .ok v w1) : (execOp a.eval o).run P w = .ok (.value v) w1 := by
  unfold execOp
  simp only [ho]
  rw [hl, hc, Sem.run_bind, hr]
  rfl
section
variable {B g : Nat} {N : Int} {A1 A2 : Option Addr} {c1 c2 : Nat} {l : List Rk} {d : List (List UInt8)} {xs : List Value} {w : World}
theorem ImB.row (h : ImB B g N A1 c1 l A2 c2 d xs w) (hd : 0 < d.length) : ∃ q, A2 = some ⟨q, 0, none⟩ ∧ q < w.heap.size ∧ ∀ i v, i < d.length → xs[i]? = some v → w.cell? ⟨q, i, none⟩ = some v := by
  rcases h.rd.2 with ⟨_, h0⟩ | ⟨q, cap, cur, hv, _, hg, _⟩
  · omega
  · injection hv with e1 _ _
    subst e1
    exact ⟨q, rfl, heap_lt1 hg, fun i v hi hx => (h.rd.cellAt i (by omega)).trans hx⟩
/-- The image laid into the result's block. -/
theorem ImB.laid (h : ImB B g N A1 c1 l A2 c2 d xs w) {g0 : Nat} (hg0 : g0 < B) {x0 x1 x2 : Value} (hg : w.heap[g0]? = some (.cells #[x0, x1, x2] 29 (0, 0))) (y0 y1 y2 : Value) :
    RkRd (((w.setCell ⟨g0, 0, none⟩ y0).setCell ⟨g0, 1, none⟩ y1).setCell ⟨g0, 2, none⟩ y2) (((w.setCell ⟨g0, 0, none⟩ y0).setCell ⟨g0, 1, none⟩ y1).setCell ⟨g0, 2, none⟩ y2).heap.size A1 l ∧ DtRd (((w.setCell ⟨g0, 0, none⟩ y0).setCell ⟨g0, 1, none⟩ y1).setCell ⟨g0, 2, none⟩ y2) (((w.setCell ⟨g0, 0, none⟩ y0).setCell ⟨g0, 1, none⟩ y1).setCell ⟨g0, 2, none⟩ y2).heap.size A2 d := by
  have s0 := grown_set w g0 0 y0
  have k1 := heap_setCell_same w g0 0 _ _ y0 hg
  have s1 := grown_set (w.setCell ⟨g0, 0, none⟩ y0) g0 1 y1
  have k2 := heap_setCell_same _ g0 1 _ _ y1 k1
  have s2 := grown_set ((w.setCell ⟨g0, 0, none⟩ y0).setCell ⟨g0, 1, none⟩ y1) g0 2 y2
  have hr : ∀ {w1 w2 : World} {t : TypeId} {size n : Nat} {v : Value} {ys : List Value}, w1.ownsRow B t size v n ys → w1.grownBy w2 (some g0) → w2.ownsRow B t size v n ys := fun ho hgr => own_off ho hgr fun k hk hrk => by
    injection hrk with hrk
    have := own_ge ho k hk
    omega
  have r1 := hr (hr (hr h.rl s0) s1) s2
  have r2 := hr (hr (hr h.rd s0) s1) s2
  have d1 := h.dt.grown s0 fun k hrk => by injection hrk with hrk; subst hrk; exact ⟨_, _, _, by decide, hg⟩
  have d2 := d1.grown s1 fun k hrk => by injection hrk with hrk; subst hrk; exact ⟨_, _, _, by decide, k1⟩
  have d3 := d2.grown s2 fun k hrk => by injection hrk with hrk; subst hrk; exact ⟨_, _, _, by decide, k2⟩
  exact ⟨rk_of_row r1 h.hl, d3.rd r2⟩
end
/-- append(own, src...) for bytes, at an operation ahead of the tail. -/
theorem tail_bytes21 {P : Program} {ops : Array Oper} {Q : Exit → Act → World → Prop} {i B : Nat} {o : Oper} {a : Act} {w : World} {K : Nat → Act → World → Prop} (d : Option Tmp) (s x : Operand) (t e : TypeId) (hoi : ops[i]? = some o) (hd : o.dst = d) (hw : Region.wanted o (yielded ops a.tmps) = true)
    (ho : o.op = .call { callee := .builtin .append, args := #[s, x], argTypes := #[t, t] }) (ht : P.underlying t = some (.slice e)) (hinfo : (P.info? e).map (fun i => (i.zero, i.size, i.bytes)) = some (some (.int .u8 0), 1, 1))
    (v : Value) (n : Nat) (bs : List UInt8) (hs : a.eval s = v) (hown : w.ownsRow B e 1 v n (bs.map bv)) (hB : B ≤ w.heap.size)
    (B2 : Nat) (A : Addr) (m c : Nat) (cs : List UInt8) (hx : a.eval x = .slice (some A) m c) (hr : Rd w B2 (some A) m cs) (hb : n + m ≤ 1000000)
    (h : ∀ v' w', w'.ownsRow B e 1 v' (n + m) ((bs ++ cs).map bv) → Below B w w' → ∃ B', B ≤ B' ∧ K B' (a.put d v') w') : wpOp P ops Q i (fun a'' w'' => Below B w w'' ∧ ∃ B', B ≤ B' ∧ K B' a'' w'') a w := by
  subst hd
  obtain ⟨i0, hi, hz0, hz1, hz2⟩ := info_parts hinfo
  unfold wpOp
  simp only [hoi]
  rw [if_pos hw]
  refine .inl (wp_append_own w s x t ho B e i0 (.int .u8 0) 1 1 ht hi hz0 hz1 hz2 rfl (by decide) v n _ hs hown A m c (cs.map bv) hx (by simp [hr.1]) (rd_cells hr) (bv_one cs) (by unfold maxLen; omega) (by omega) hB ?_)
  intro v' w' h1 h2 _
  have hb' : Below B w w' := (Below.refl _ _).grown h2 hB (fun k hk => (hown.lt k hk).1)
  exact ⟨hb', h v' w' (by simpa using h1) hb'⟩

theorem run_none21 (w : World) : (Instr.buildSlice 31 0 #[]).run Try.prog w = .ok (.slice (some ⟨w.heap.size, 0, none⟩) 0 0) (w.alloc (.cells #[] 5)) := by
  obtain ⟨i0, hi, hz0, hz1, hz2⟩ := info_parts u8_info
  have e : Array.range 0 = #[] := by decide
  simp [Instr.buildSlice, run_underlying Try.underlying31, sizeOf, typeInfo, hi, newRow, Instr.fill, e]
set_option maxRecDepth 100000 in
set_option maxHeartbeats 2000000 in
theorem rget_main (w : World) (A : Option Addr) (n c B : Nat) (b : List UInt8) (hr : Rd w B A n b) (hB : B ≤ w.heap.size) (hnc : n ≤ c) (hc : c ≤ 9223372036854775807) (hn : n ≤ 900000) (h28 : 28 ≤ n) (hm : b.take 8 = markB) (hys : sumAt b 0 24 = true) (N K : Nat) (hN : lenN b = N) (hK : cntN b = K) (h0 : 184 ≤ N) (h1 : N ≤ 16384) (h2 : N % 16 = 8) (h3 : K ≤ 1024) (h4 : 32 + 8 * K ≤ n) (hst : sumAt b 28 (28 + 8 * K) = true) (G : Nat × Nat × List Rk × List (List UInt8)) (hG : getG b = G) :
    Calls Try.prog 15 #[.slice A n c] w fun e w' => GotR w G e w' := by
  have HGG := Lib.hid hG
  clear hG
  obtain ⟨g, off, rfl, _⟩ := hr.2 (by omega)
  obtain ⟨w1, hw1⟩ : ∃ w1, w.alloc (.cells #[.int .i64 0, .slice none 0 0, .slice none 0 0] 29) = w1 := ⟨_, rfl⟩
  have hb1 : Below w.heap.size w w1 := by rw [← hw1]; exact (Below.refl _ _).alloc (Nat.le_refl _) _
  have n1 : w1.heap[w.heap.size]? = some (.cells #[.int .i64 0, .slice none 0 0, .slice none 0 0] 29 (0, 0)) := by rw [← hw1]; exact heap_alloc_new w _
  obtain ⟨wd, hwd⟩ : ∃ wd, w1.drew = wd := ⟨_, rfl⟩
  have hbd : Below w1.heap.size w1 wd := by rw [← hwd]; exact (Below.refl _ _).drew
  have nd := (hbd.block _ (heap_lt1 n1)).trans n1
  have hBd := hb1.trans (hbd.mono hb1.size)
  have HBD := Lib.hid hBd
  have hR := (hr.more hB).below hBd
  have HR := Lib.hid hR
  have HRS := Lib.hid ((hR.more hBd.size).sub 0 8 (by omega))
  rw [List.drop_zero, Nat.add_zero] at HRS
  have HBG := Lib.hid (rbegin_any wd)
  obtain ⟨T, hT⟩ : ∃ T, strB markB = T := ⟨_, rfl⟩
  rw [hm] at HRS
  have HT := Lib.hid hT
  have gT : (T.toList != T.toList) = false := str_self T
  have HR0 := Lib.hid (hr.more hB)
  have HSU := Lib.hid (fun V (hV : Below w.heap.size w V) => rsummed_any V (some ⟨g, off, none⟩) n c w.heap.size b 0 24 ((hr.more hB).below hV) hV.size hnc hc hn (by omega) (by omega) true hys)
  have HNA := Lib.hid (fun V (hV : Below w.heap.size w V) => refNum_any (some ⟨g, off + 8, none⟩) 8 (c - 8) w.heap.size ((b.drop 8).take 8) V (((hr.more hB).sub 8 8 (by omega)).below hV) (Nat.le_refl _))
  have HNB := Lib.hid (fun V (hV : Below w.heap.size w V) => refNum_any (some ⟨g, off + 16, none⟩) 8 (c - 16) w.heap.size ((b.drop 16).take 8) V (((hr.more hB).sub 16 8 (by omega)).below hV) (Nat.le_refl _))
  have hNl : N < 18446744073709551616 := by rw [← hN]; exact numB_lt64 _ (List.length_take_le _ _)
  have hKl : K < 18446744073709551616 := by rw [← hK]; exact numB_lt64 _ (List.length_take_le _ _)
  have hN0 := hN
  have hK0 := hK
  unfold lenN at hN
  unfold cntN at hK
  rw [hN] at HNA
  rw [hK] at HNB
  have HW1 := Lib.hid hw1
  have HWD := Lib.hid hwd
  have HND := Lib.hid nd
  have g1 : decide (n < 28) = false := decide_eq_false (by omega)
  have g3 : (8 : Int) ≤ (c : Int) := by omega
  have g4 : (16 : Int) ≤ (c : Int) := by omega
  have g5 : (24 : Int) ≤ (c : Int) := by omega
  have g6 : decide (N < 184) = false := decide_eq_false (by omega)
  have g6' : decide ((N : Int) < (184 : Int)) = false := decide_eq_false (by omega)
  have g7 : decide (16384 < N) = false := decide_eq_false (by omega)
  have g7' : decide ((16384 : Int) < (N : Int)) = false := decide_eq_false (by omega)
  have g8 : ((N : Int) % 16 != 8) = false := by rw [bne_eq_false_iff_eq]; omega
  have g8' : (N % 16 != 8) = false := by rw [bne_eq_false_iff_eq]; omega
  have g9 : decide (1024 < K) = false := decide_eq_false (by omega)
  have g9' : decide ((1024 : Int) < (K : Int)) = false := decide_eq_false (by omega)
  have gm : min (K : Int) 1024 = (K : Int) := by omega
  have ga : decide (n < 28 + 8 * K + 4) = false := decide_eq_false (by omega)
  have ga' : decide ((n : Int) < (28 + 8 * K + 4 : Int)) = false := decide_eq_false (by omega)
  obtain ⟨E, hE⟩ : ∃ E, 28 + 8 * K = E := ⟨_, rfl⟩
  have hEE : (28 : Int) + 8 * (K : Int) = (E : Int) := by omega
  rw [hE] at ga hst
  have hEb : E ≤ 10000 := by omega
  have hEn : E + 4 ≤ n := by omega
  have HK3 := Lib.hid h3
  have HHO : Hid (HeadOk b n N K) := (show HeadOk b n N K by exact ⟨hr.1, h28, hm, hys, hN0, hK0⟩)
  have HNO : Hid (NumOk n N K) := (show NumOk n N K by exact ⟨h0, h1, h2, h3, h4⟩)
  have HET := Lib.hid hE
  have HSTT := Lib.hid (show sumAt b 28 (28 + 8 * K) = true by rw [hE]; exact hst)
  have HST := Lib.hid (fun V (hV : Below w.heap.size w V) => rsummed_any V (some ⟨g, off, none⟩) n c w.heap.size b 28 E ((hr.more hB).below hV) hV.size hnc hc hn (by omega) (by omega) true hst)
  have HSANY := Lib.hid (fun V (hV : Below w.heap.size w V) i j (hij : i ≤ j) (hj : j + 4 ≤ n) y (hy : sumAt b i j = y) => rsummed_any V (some ⟨g, off, none⟩) n c w.heap.size b i j ((hr.more hB).below hV) hV.size hnc hc hn hij hj y hy)
  have HNUM := Lib.hid (fun V (hV : Below w.heap.size w V) p (hp : p + 8 ≤ n) => refNum_any (some ⟨g, off + p, none⟩) 8 (c - p) w.heap.size ((b.drop p).take 8) V (((hr.more hB).sub p 8 (by omega)).below hV) (Nat.le_refl _))
  have HRR := Lib.hid (fun V (hV : Below w.heap.size w V) p m (hp : p + m ≤ n) => ((hr.more hB).below hV).sub p m hp)
  have HGB := Lib.hid (show g < w.heap.size by obtain ⟨g', o', e', hg', _⟩ := hr.2 (by omega); injection e' with e'; injection e' with e1 _ _; omega)
  clear hr hw1 hb1 n1 hwd hbd nd hBd hR hT hys hN hK hm hB h2 h3 h4 h28 hst hN0 hK0 hE
  go_enter Try.func15, Try.ntmps15
  go_wp2_with (first | (rw [HW1.out]) | fail)
  refine wp_region_tail wd.heap.size [([0, 1, 2], 3)] [4, 5] [] (by kernel_rfl) (by kernel_rfl) (by kernel_rfl) (fun _ _ _ _ _ h => h) ?_
  rw [HWD.out]
  have q0 : ∀ z : LaterB wd.heap.size wd, (convert 31 9 (.slice (some ⟨g, off, none⟩) 8 c)).run Try.prog z.val = .ok (.string T) z.val := fun z => by rw [← HT.out]; exact conv_rd (HRS.out.below z.ext)
  refine tail_cons (l := ?segA) ?hsegA ?_
  case hsegA => simp only [pick, List.getElem?_toArray, List.getElem?_cons_succ, List.getElem?_cons_zero]; rfl
  repeat (go_big_quiet_step (fail))
  refine wpQuiet_nil ?_
  clear q0
  refine tail_call2 (vs := #[]) Try.call26 rfl rfl rfl (R := fun r w' => ∃ A c, r = .slice A 8 c ∧ w'.ownsRow wd.heap.size 5 1 (.slice A 8 c) 8 (markB.map bv) ∧ Below wd.heap.size wd w') (HBG.out.mono ?_) ?_
  · rintro e w' ⟨A, c, rfl, _, ho, hb⟩
    exact ⟨_, rfl, hb, A, c, rfl, ho, hb⟩
  rintro r w8 _ ⟨A8, c8, rfl, ho8, hb8⟩
  have HR8 := Lib.hid (own_reads ho8)
  have HB8 := Lib.hid (HBD.out.trans (hb8.mono HBD.out.size))
  have HN8 := Lib.hid ((hb8.block _ (heap_lt1 HND.out)).trans HND.out)
  refine ⟨w8.heap.size, hb8.size, ?_⟩
  clear ho8 hb8
  simp only [Act.put, List.setIfInBounds_toArray, List.set_cons_zero, List.set_cons_succ]
  have q4 : ∀ z : LaterB w8.heap.size w8, (convert 31 9 (.slice A8 8 c8)).run Try.prog z.val = .ok (.string T) z.val := fun z => by rw [← HT.out]; exact conv_rd (HR8.out.below z.ext)
  refine tail_last (l := ?lastB) (t := []) ?hlastB ?htlastB ?_
  case hlastB => simp only [pick, List.getElem?_toArray, List.getElem?_cons_succ, List.getElem?_cons_zero]; rfl
  case htlastB => rfl
  repeat (go_big_quiet_step (fail))
  refine wpQuiet_nil ?_
  clear q4
  go_wp2_with fail
  refine (HSU.out w8 HB8.out).mono ?_
  rintro e w9 ⟨rfl, hb9⟩
  have HN9 := Lib.hid ((hb9.block _ (heap_lt1 HN8.out)).trans HN8.out)
  have HB9 := Lib.hid (HB8.out.trans (hb9.mono HB8.out.size))
  clear hb9
  go_wp2_with fail
  refine (HNA.out w9 HB9.out).mono ?_
  rintro e wq ⟨rfl, rfl⟩
  go_wp2_with fail
  refine (HNB.out w9 HB9.out).mono ?_
  rintro e wq ⟨rfl, rfl⟩
  go_wp2_with fail
  refine (HST.out w9 HB9.out).mono ?_
  rintro e w10 ⟨rfl, hb10⟩
  have HN10 := Lib.hid ((hb10.block _ (heap_lt1 HN9.out)).trans HN9.out)
  have HB10 := Lib.hid (HB9.out.trans (hb10.mono HB9.out.size))
  clear hb10
  obtain ⟨w11, hw11⟩ : ∃ w11, w10.alloc (.cells #[.int .i64 (N : Int), .slice none 0 0, .slice none 0 0] 29) = w11 := ⟨_, rfl⟩
  have hb11 : Below w10.heap.size w10 w11 := by rw [← hw11]; exact (Below.refl _ _).alloc (Nat.le_refl _) _
  have n11 : w11.heap[w10.heap.size]? = some (.cells #[.int .i64 (N : Int), .slice none 0 0, .slice none 0 0] 29 (0, 0)) := by rw [← hw11]; exact heap_alloc_new w10 _
  have HW11 := Lib.hid hw11
  have HIM0 : Hid (ImB w10.heap.size w10.heap.size (N : Int) none 0 [] none 0 [] [] w11) := ⟨n11, World.ownsRow_nil _ _ _ _, World.ownsRow_nil _ _ _ _, fun i y h => by simp at h, Nat.le_refl _, fun x hx => by simp at hx⟩
  have HB11 := Lib.hid hb11
  obtain ⟨i0, hi, hz0, hz1, hz2⟩ := info_parts bk_info21
  clear hw11 hb11 n11 HST HW1 HWD HND HN9 HN8 HR8 HRS HBG HSU HNA HNB HR HR0 HBD
  go_wp2_with (first | (rw [HW11.out]) | fail)
  go_loopw [10, 11, 12] (fun o t i wr => ∃ (j z q p : Nat) (l : List Rk) (A1 : Option Addr) (c1 : Nat) (A2 : Option Addr) (c2 : Nat) (xs : List Value), o = .int .i64 (z : Int) ∧ t = .int .i64 (q : Int) ∧ i = .int .i64 (p : Int) ∧ p = 28 + 8 * j ∧ j ≤ K ∧ l.length = j ∧ z = 184 + (l.map (·.s.toNat)).sum ∧ z ≤ 184 + 20000 * j ∧ q = heldL l ∧ q ≤ 20000 * j ∧ blksOf (b.drop 28) j 184 = some l ∧ ImB w10.heap.size w10.heap.size (N : Int) A1 c1 l A2 c2 (zerL l) xs wr ∧ (∀ x ∈ l, isSz x.s = true) ∧ Below w10.heap.size w10 wr) (fun _ _ i _ => E - (intOf i).toNat)
  case atStart => exact ⟨0, 184, 0, 28, [], none, 0, none, 0, [], rfl, rfl, rfl, rfl, Nat.zero_le _, rfl, rfl, by omega, rfl, by omega, rfl, HIM0.out, fun x hx => by simp at hx, HB11.out⟩
  case round =>
    obtain ⟨j, z, q, p, l, A1, c1, A2, c2, xs, rfl, rfl, rfl, hp, hj, hlj, hz, hzb, hq, hqb, hbk, him, hszs, hb⟩ := hrel
    have HP := Lib.hid hp
    have hpb : p ≤ 10000 := by omega
    have hzb2 : z ≤ 30000000 := by omega
    have hqb2 : q ≤ 30000000 := by omega
    by_cases hlt : p < E
    · have hjK : j < K := by have := HET.out; omega
      have hN' := HNUM.out wr (HB10.out.trans (hb.mono HB10.out.size)) p (by omega)
      have hv : numB ((b.drop p).take 8) < 18446744073709551616 := numB_lt64 _ (List.length_take_le _ _)
      have hsn := blksOf_snoc hbk
      rw [List.drop_drop, show 28 + 8 * j = p from hp.symm] at hsn
      obtain ⟨v, hvv⟩ : ∃ v, numB ((b.drop p).take 8) = v := ⟨_, rfl⟩
      rw [hvv] at hN' hv hsn
      have hU := runpack_any wr v hv
      obtain ⟨un, hun⟩ : ∃ un, unpN v = un := ⟨_, rfl⟩
      rw [hun] at hU hsn
      have HNN := Lib.hid hN'
      have HU := Lib.hid hU
      have hg3 : (p : Int) + 8 ≤ (c : Int) := by omega
      have hg4 : (p : Int) < (c : Int) := by omega
      have hv2 := hv
      clear hN' hU hvv hp
      cases un with
      | none =>
        have HE0 : Hid (getG b = (3, 0, [], [])) := HHO.out.none HNO.out HSTT.out (by
          have h := blksOf_none (j := K - (j + 1)) hsn
          rw [show j + 1 + (K - (j + 1)) = K from by omega] at h
          exact h)
        have HNr := Lib.hid ((hb.block _ (heap_lt1 HN10.out)).trans HN10.out)
        have HBr := Lib.hid (HB10.out.trans (hb.mono HB10.out.size))
        unfold unpV at HU
        clear hsn hbk him hszs hb hz hq hlj hun
        go_wp2_with fail
        refine HNN.out.mono ?_
        rintro e wq ⟨rfl, rfl⟩
        go_wp2_with fail
        refine HU.out.mono ?_
        rintro e wq ⟨rfl, rfl⟩
        have n9 := HNr.out
        have hl9 := heap_lt1 n9
        obtain ⟨f0, f1, f2⟩ := im_thaw n9
        obtain ⟨z0, z1, z2⟩ := rk_cells n9
        have HM := Lib.hid (im_set n9 (.int .i64 0) (.slice none 0 0) (.slice none 0 0))
        have HF := Lib.hid (((HBr.out.setCell (p := ⟨w.heap.size, 0, none⟩) (Nat.le_refl _) (.int .i64 0)).setCell (p := ⟨w.heap.size, 1, none⟩) (Nat.le_refl _) (.slice none 0 0)).setCell (p := ⟨w.heap.size, 2, none⟩) (Nat.le_refl _) (.slice none 0 0))
        clear n9
        go_wp2
        (try simp only [Exit.inBlock, Exit.then])
        refine rim_ret (g := w.heap.size) (x := .int .i64 3) Try.results15 ?_ ?_ ?_ HM.out ?_
        · rfl
        · rfl
        · rfl
        · rw [← HGG.out, HE0.out]; exact GotR.err rfl HF.out
      | some x =>
        obtain ⟨s, u⟩ := x
        have hsz1 := (unpN_some hun).1
        have hs3 := (isSz_iff _).1 hsz1
        have hsn2 := hsn
        dsimp only at hsn2
        rw [← hz] at hsn2
        obtain ⟨w2, hw2⟩ : ∃ w2, wr.alloc (.cells #[.int .i64 (z : Int), .int .i64 (s : Int), .bool u] 50) = w2 := ⟨_, rfl⟩
        have hb2 : Below wr.heap.size wr w2 := by rw [← hw2]; exact (Below.refl _ _).alloc (Nat.le_refl _) _
        have n2 : w2.heap[wr.heap.size]? = some (.cells #[.int .i64 (z : Int), .int .i64 (s : Int), .bool u] 50 (0, 0)) := by rw [← hw2]; exact heap_alloc_new wr _
        have him2 := him.stay hb2
        have hBB := hb.trans (hb2.mono hb.size)
        have HNEW : Hid (∀ j u', [Value.int .i64 (z : Int), .int .i64 (s : Int), .bool u][j]? = some u' → w2.cell? ((⟨wr.heap.size, 0, none⟩ : Addr).add j) = some u') := fun j u' hu' => by
          have e : (⟨wr.heap.size, 0, none⟩ : Addr).add j = ⟨wr.heap.size, j, none⟩ := by unfold Addr.add; split <;> simp_all
          rw [e, cell_of_row w2 _ j _ _ (0, 0) n2]
          simpa using hu'
        have HONE : Hid (∀ u' ∈ [Value.int .i64 (z : Int), .int .i64 (s : Int), .bool u], u'.oneCell' = true) := fun u' hu' => by
          simp at hu'
          rcases hu' with rfl | rfl | rfl <;> rfl
        have HRUN := Lib.hid (fun V : World => run_one_b V (z : Int) (s : Int) u)
        have HW2 := Lib.hid hw2
        have HIM2 := Lib.hid him2
        have HB2 := Lib.hid hBB
        have hB2 : w10.heap.size ≤ w2.heap.size := hBB.size
        have hlb : l.length ≤ 2000 := by omega
        obtain ⟨d0, d1, d2⟩ := rk_cells him.obj
        have hlm := him.lt
        have hlm2 := him2.lt
        have HSNN := Lib.hid hsn2
        have HSZ : Hid (∀ x ∈ l ++ [(⟨(z : Int), (s : Int), u⟩ : Rk)], isSz x.s = true) := fun x hx => by
          rcases List.mem_append.1 hx with hx | hx
          · exact hszs x hx
          · simp at hx; subst hx; exact hsz1
        have HZ : Hid (((z + s : Nat)) = 184 + ((l ++ [(⟨(z : Int), (s : Int), u⟩ : Rk)]).map (·.s.toNat)).sum) := (show _ = _ by
          simp [hz, Nat.add_assoc])
        have HQQ := Lib.hid hq
        have HLJ := Lib.hid hlj
        unfold unpV at HU
        clear hw2 hb2 n2 him2 hBB hsn hsn2 hbk him hszs hb hz hq hlj hun hsz1
        cases u with
        | false =>
          have HH : Hid (q = heldL (l ++ [(⟨(z : Int), (s : Int), false⟩ : Rk)])) := (show _ = _ by rw [heldL_snoc]; simpa using HQQ.out)
          have HZZ : Hid (zerL (l ++ [(⟨(z : Int), (s : Int), false⟩ : Rk)]) = zerL l) := (show _ = _ by rw [zerL_snoc]; simp)
          go_wp2_with fail
          refine HNN.out.mono ?_
          rintro e wq ⟨rfl, rfl⟩
          go_wp2_with fail
          refine HU.out.mono ?_
          rintro e wq ⟨rfl, rfl⟩
          go_wp2_with (first
            | (rw [HRUN.out])
            | (rw [HW2.out])
            | (at_builtin; go_must (refine wpList_append_own _ rfl _ _ 22 rfl w10.heap.size 50 i0 _ 3 24 Try.underlying22 hi hz0 hz1 hz2 rfl (by decide) _ l.length (flatR l) rfl HIM2.out.rl ⟨wr.heap.size, 0, none⟩ 1 1 [.int .i64 (z : Int), .int .i64 (s : Int), .bool false] rfl rfl HNEW.out HONE.out (by unfold maxLen; omega) (by omega) hB2 ?_); intro x8 w8 own8 gr8 at8;
               obtain ⟨A1', c1', rfl, hg8, him8, hb8⟩ := HIM2.out.pushB (x := ⟨(z : Int), (s : Int), false⟩) (by rw [flatR_append]; exact own8) gr8 (by dsimp only; omega) HB2.out (Nat.le_refl _) hB2;
               have e8 := hg8.trans HIM2.out.obj; obtain ⟨c80, c81, c82⟩ := rk_cells e8; obtain ⟨t80, t81, t82⟩ := im_thaw e8; have hl8 := heap_lt1 e8; have HIM8 := Lib.hid him8; have HB8x := Lib.hid hb8; clear own8 gr8 at8 hg8 him8 hb8 e8)
            | fail)
          go_roundw
          case rel =>
            refine ⟨j + 1, z + s, q, p + 8, l ++ [⟨(z : Int), (s : Int), false⟩], A1', c1', A2, c2, xs, by go_num, by go_num, by go_num, by have := HP.out; omega, by omega, by rw [List.length_append, HLJ.out]; rfl, HZ.out, by omega, HH.out, by omega, HSNN.out, ?_, HSZ.out, HB8x.out⟩
            rw [HZZ.out]
            exact HIM8.out
          case measure => simp only [intOf]; omega
        | true =>
          go_wp2_with fail
          refine HNN.out.mono ?_
          rintro e wq ⟨rfl, rfl⟩
          go_wp2_with fail
          refine HU.out.mono ?_
          rintro e wq ⟨rfl, rfl⟩
          go_wp2_with (first
            | (rw [HRUN.out])
            | (rw [HW2.out])
            | (at_builtin; go_must (refine wpList_append_own _ rfl _ _ 22 rfl w10.heap.size 50 i0 _ 3 24 Try.underlying22 hi hz0 hz1 hz2 rfl (by decide) _ l.length (flatR l) rfl HIM2.out.rl ⟨wr.heap.size, 0, none⟩ 1 1 [.int .i64 (z : Int), .int .i64 (s : Int), .bool true] rfl rfl HNEW.out HONE.out (by unfold maxLen; omega) (by omega) hB2 ?_); intro x8 w8 own8 gr8 at8;
               obtain ⟨A1', c1', rfl, hg8, him8, hb8⟩ := HIM2.out.pushB (x := ⟨(z : Int), (s : Int), true⟩) (by rw [flatR_append]; exact own8) gr8 (by dsimp only; omega) HB2.out (Nat.le_refl _) hB2;
               have e8 := hg8.trans HIM2.out.obj; obtain ⟨c80, c81, c82⟩ := rk_cells e8; obtain ⟨t80, t81, t82⟩ := im_thaw e8; have hl8 := heap_lt1 e8; have HIM8 := Lib.hid him8; have HB8x := Lib.hid hb8; clear own8 gr8 at8 hg8 him8 hb8 e8)
            | fail)
          obtain ⟨wS, hwS⟩ : ∃ wS, w8.setCell ⟨w10.heap.size, 1, none⟩ (.slice A1' (l.length + 1) c1') = wS := ⟨_, rfl⟩
          rw [hwS] at HIM8 HB8x ⊢
          obtain ⟨wD, hwD⟩ : ∃ wD, wS.drew = wD := ⟨_, rfl⟩
          have hbD : Below wS.heap.size wS wD := by rw [← hwD]; exact (Below.refl _ _).drew
          have himD := HIM8.out.stay hbD
          have hBD := HB8x.out.trans (hbD.mono HB8x.out.size)
          obtain ⟨f0, f1, f2⟩ := rk_cells himD.obj
          have hlD := himD.lt
          have HWDD := Lib.hid hwD
          obtain ⟨y, hy⟩ : ∃ y, List.replicate (s - 16) (0 : UInt8) = y := ⟨_, rfl⟩
          have hyl : y.length = s - 16 := by rw [← hy]; simp
          have hs16 : (s : Int) - 16 = (y.length : Int) := by omega
          have hyb : y.length ≤ 20000 := by omega
          have hmk := run_mk21 y.length (by omega) y (by rw [hyl]; exact hy) wD
          obtain ⟨wE, hwE⟩ : ∃ wE, wD.alloc (.cells (rowB y) 5) = wE := ⟨_, rfl⟩
          rw [hwE] at hmk
          have hbE : Below wD.heap.size wD wE := by rw [← hwE]; exact (Below.refl _ _).alloc (Nat.le_refl _) _
          have owE : wE.ownsRow 0 5 1 (.slice (some ⟨wD.heap.size, 0, none⟩) y.length y.length) y.length (y.map bv) := by rw [← hwE]; exact World.ownsRow_lit wD (rowB y) y.length (Nat.zero_le _) (by unfold maxLen; omega) (by simp [rowB])
          have himE := himD.stay hbE
          have hBE := hBD.trans (hbE.mono hBD.size)
          obtain ⟨wF, hwF⟩ : ∃ wF, wE.alloc (.cells #[.slice (some ⟨wD.heap.size, 0, none⟩) y.length y.length] 31) = wF := ⟨_, rfl⟩
          have hro := run_one_d wE (some ⟨wD.heap.size, 0, none⟩) y.length y.length
          rw [hwF] at hro
          have hbF : Below wE.heap.size wE wF := by rw [← hwF]; exact (Below.refl _ _).alloc (Nat.le_refl _) _
          have nF : wF.heap[wE.heap.size]? = some (.cells #[.slice (some ⟨wD.heap.size, 0, none⟩) y.length y.length] 31 (0, 0)) := by rw [← hwF]; exact heap_alloc_new wE _
          have himF := himE.stay hbF
          have owF := own_stay owE hbF (own_lt owE)
          have hBF := hBE.trans (hbF.mono hBE.size)
          have HIMF := Lib.hid himF
          have HBF := Lib.hid hBF
          have HOWF := Lib.hid owF
          have HZZ : Hid (zerL (l ++ [(⟨(z : Int), (s : Int), true⟩ : Rk)]) = zerL l ++ [y]) := (show _ = _ by rw [zerL_snoc, ← hy]; simp)
          have HH : Hid (q + (s - 16) = heldL (l ++ [(⟨(z : Int), (s : Int), true⟩ : Rk)])) := (show _ = _ by rw [heldL_snoc, HQQ.out]; simp)
          have HYL := Lib.hid hyl
          have hzl : (zerL l).length ≤ 2000 := by have := zerL_le l; omega
          have HNF : Hid (∀ j u, [Value.slice (some ⟨wD.heap.size, 0, none⟩) y.length y.length][j]? = some u → wF.cell? ((⟨wE.heap.size, 0, none⟩ : Addr).add j) = some u) := fun j u hu => by
            have e : (⟨wE.heap.size, 0, none⟩ : Addr).add j = ⟨wE.heap.size, j, none⟩ := by unfold Addr.add; split <;> simp_all
            rw [e, cell_of_row wF _ j _ _ (0, 0) nF]
            simpa using hu
          have HOF : Hid (∀ u ∈ [Value.slice (some ⟨wD.heap.size, 0, none⟩) y.length y.length], u.oneCell' = true) := fun u hu => by
            simp at hu
            subst hu; rfl
          have hBFs : w10.heap.size ≤ wF.heap.size := hBF.size
          obtain ⟨j0, ji, jz0, jz1, jz2⟩ := info_parts dt_inf
          clear hwS hwD hbD himD hBD hwE owE himE hBE hwF nF himF owF hBF HIM8 HB8x HIM2 HB2 HNEW HONE hyl hy
          clear c80 c81 c82 t80 t81 t82 hl8 d0 d1 d2
          refine wp_region_tail wD.heap.size [([0, 1, 2, 3], 4), ([], 5)] [] [6, 7, 8] (by kernel_rfl) (by kernel_rfl) (by kernel_rfl) (fun _ _ _ _ _ h => h) ?_
          rw [HWDD.out]
          have q2 : ∀ z : LaterB wD.heap.size wD, z.val.cell? ⟨w10.heap.size, 2, none⟩ = some (.slice A2 (zerL l).length c2) := fun z => (z.ext.cell (p := ⟨w10.heap.size, 2, none⟩) hlD).trans f2
          refine tail_cons (l := ?segC) ?hsegC ?_
          case hsegC => simp only [pick, List.getElem?_toArray, List.getElem?_cons_succ, List.getElem?_cons_zero]; rfl
          repeat (go_big_quiet_step (fail))
          refine wpQuiet_nil ?_
          clear q2
          refine tail_val2 (some 124) (w1 := wE) (v := .slice (some ⟨wD.heap.size, 0, none⟩) y.length y.length) rfl rfl rfl ?rv1 hbE ⟨wE.heap.size, hbE.size, ?_⟩
          case rv1 => exact mk_run21 rfl rfl rfl hmk
          simp only [Act.put, List.setIfInBounds_toArray, List.set_cons_zero, List.set_cons_succ]
          refine tail_cons (l := []) rfl (wpQuiet_nil ?_)
          refine tail_val2 (some 125) (w1 := wF) (v := .slice (some ⟨wE.heap.size, 0, none⟩) 1 1) rfl rfl rfl ?rv2 hbF ⟨wF.heap.size, hbF.size, ?_⟩
          case rv2 => exact bslice_run rfl rfl hro
          simp only [Act.put, List.setIfInBounds_toArray, List.set_cons_zero, List.set_cons_succ]
          refine tail_last (l := ?lastC) (t := ?tailC) ?hlastC ?htailC ?_
          case hlastC => rfl
          case htailC => simp only [pick, List.getElem?_toArray, List.getElem?_cons_succ, List.getElem?_cons_zero]; rfl
          refine wpQuiet_nil ?_
          refine wpList_append_own _ rfl (.tmp 121) (.tmp 125) 23 rfl w10.heap.size 31 j0 _ 1 24 Try.underlying23 ji jz0 jz1 jz2 rfl (by decide) (.slice A2 (zerL l).length c2) (zerL l).length xs rfl HIMF.out.rd ⟨wE.heap.size, 0, none⟩ 1 1 [.slice (some ⟨wD.heap.size, 0, none⟩) y.length y.length] rfl rfl HNF.out HOF.out (by unfold maxLen; omega) (by omega) hBFs ?_
          intro x8 wG own8 gr8 _
          obtain ⟨A2', c2', rfl, hg8, him8, hb8⟩ := HIMF.out.pushD (by omega) HOWF.out own8 gr8 HBF.out (Nat.le_refl _) hBFs
          have e8 := hg8.trans HIMF.out.obj
          obtain ⟨c80, c81, c82⟩ := rk_cells e8
          obtain ⟨t80, t81, t82⟩ := im_thaw e8
          have hl8 := heap_lt1 e8
          have HIM9 := Lib.hid him8
          have HB9x := Lib.hid hb8
          clear own8 gr8 hg8 him8 hb8 e8 hmk hro hbE hbF f0 f1 f2 hlD HIMF HBF HOWF HNF HOF
          go_wp2
          go_roundw
          case rel =>
            refine ⟨j + 1, z + s, q + (s - 16), p + 8, l ++ [⟨(z : Int), (s : Int), true⟩], A1', c1', A2', c2', xs ++ [.slice (some ⟨wD.heap.size, 0, none⟩) y.length y.length], by go_num, by go_num, by go_num, by have := HP.out; omega, by omega, by rw [List.length_append, HLJ.out]; rfl, HZ.out, by omega, HH.out, by omega, HSNN.out, ?_, HSZ.out, HB9x.out⟩
            rw [HZZ.out]
            exact HIM9.out
          case measure => simp only [intOf]; omega
    · have hpE : p = E := by have := HET.out; omega
      have hlK : l.length = K := by have := HET.out; omega
      have hjK : j = K := by have := HET.out; omega
      obtain ⟨yr, hyr⟩ : ∃ yr, rowOk (N : Int) 184 false l = yr := ⟨_, rfl⟩
      have hmy : mayI (N : Int) l (zerL l) = yr := by
        unfold mayI
        rw [(lenOk_iff (N : Int)).2 (by have := HNO.out.n0; have := HNO.out.n1; have := HNO.out.n2; omega), hyr, datOk_zer hszs]
        cases yr <;> rfl
      have hzl : (zerL l).length ≤ 2000 := by have := zerL_le l; omega
      obtain ⟨dl, hdl⟩ : ∃ dl, (zerL l).length = dl := ⟨_, rfl⟩
      obtain ⟨ll, hll⟩ : ∃ ll, l.length = ll := ⟨_, rfl⟩
      have hM := rmay_any wr (N : Int) (by omega) A1 A2 c1 c2 l (zerL l) him.rkrd him.dtrd (by omega) (by omega) yr hmy
      unfold imV at hM
      have hbk2 : blksOf (b.drop 28) K 184 = some l := by rw [← hjK]; exact hbk
      have ho := him.obj
      rw [hll, hdl] at hM ho
      obtain ⟨d0, d1, d2⟩ := rk_cells ho
      have hlm := heap_lt1 ho
      have HMM := Lib.hid hM
      have HBK := Lib.hid hbk2
      have HSZS := Lib.hid hszs
      have HLK := Lib.hid hlK
      have HQQ := Lib.hid hq
      have HIM := Lib.hid him
      have HB := Lib.hid hb
      have HDL := Lib.hid hdl
      have HLL := Lib.hid hll
      rw [hdl] at hzl
      clear hM ho hbk hbk2 him hszs hb hz hq hlj hlK hdl hll hmy hjK HB11 HIM0 HW11
      cases yr with
      | false =>
        have HE0 : Hid (getG b = (3, 0, [], [])) := HHO.out.rowBad HNO.out HSTT.out HBK.out hyr
        clear hyr hpE
        go_wp2_with fail
        refine HMM.out.mono ?_
        rintro e wm ⟨rfl, hbm⟩
        have HNr := Lib.hid ((hbm.block _ (Nat.lt_of_lt_of_le (heap_lt1 HN10.out) HB.out.size)).trans ((HB.out.block _ (heap_lt1 HN10.out)).trans HN10.out))
        have HBr := Lib.hid (HB10.out.trans ((HB.out.trans (hbm.mono HB.out.size)).mono HB10.out.size))
        clear hbm d0 d1 d2 hlm
        have n9 := HNr.out
        have hl9 := heap_lt1 n9
        obtain ⟨f0, f1, f2⟩ := im_thaw n9
        obtain ⟨z0, z1, z2⟩ := rk_cells n9
        have HM := Lib.hid (im_set n9 (.int .i64 0) (.slice none 0 0) (.slice none 0 0))
        have HF := Lib.hid (((HBr.out.setCell (p := ⟨w.heap.size, 0, none⟩) (Nat.le_refl _) (.int .i64 0)).setCell (p := ⟨w.heap.size, 1, none⟩) (Nat.le_refl _) (.slice none 0 0)).setCell (p := ⟨w.heap.size, 2, none⟩) (Nat.le_refl _) (.slice none 0 0))
        clear n9
        go_wp2
        (try simp only [Exit.inBlock, Exit.then])
        refine rim_ret (g := w.heap.size) (x := .int .i64 3) Try.results15 ?_ ?_ ?_ HM.out ?_
        · rfl
        · rfl
        · rfl
        · rw [← HGG.out, HE0.out]; exact GotR.err rfl HF.out
      | true =>
        have HROW : Hid (getG b = if (datG b l).1 ≠ 0 then ((datG b l).1, 0, [], []) else (0, N, l, (datG b l).2)) := HHO.out.row HNO.out HSTT.out HBK.out hyr
        clear hyr hpE
        by_cases hlen : n = E + 4 + q + 8
        · obtain ⟨T2, hT2⟩ : ∃ T2, E + 4 + q = T2 := ⟨_, rfl⟩
          obtain ⟨M, hMM⟩ : ∃ M, T2 + 4 = M := ⟨_, rfl⟩
          have hi1 : (E : Int) + 4 + (q : Int) = (T2 : Int) := by omega
          have hi2 : (n : Int) - 4 = (M : Int) := by omega
          have gl : ((n : Int) != (T2 : Int) + 8) = false := by rw [bne_eq_false_iff_eq]; omega
          obtain ⟨y1, hy1⟩ : ∃ y1, sumAt b (E + 4) T2 = y1 := ⟨_, rfl⟩
          obtain ⟨y2, hy2⟩ : ∃ y2, sumAt b 0 M = y2 := ⟨_, rfl⟩
          have HS1 := Lib.hid (fun V hV => HSANY.out V hV (E + 4) T2 (by omega) (by omega) y1 hy1)
          have HS2 := Lib.hid (fun V hV => HSANY.out V hV 0 M (by omega) (by omega) y2 hy2)
          rw [show ((E + 4 : Nat) : Int) = (E : Int) + 4 from by omega] at HS1
          have HDG : Hid (datG b l = if y1 = false ∨ y2 = false then (9, []) else (0, cutL l (b.drop (E + 4)))) := (show _ = _ by
            have e1 := HET.out
            have e2 : E + 4 = 32 + 8 * K := by omega
            have e3 : T2 = 32 + 8 * K + heldL l := by have := HQQ.out; omega
            have e4 : M = 32 + 8 * K + heldL l + 4 := by omega
            have e5 : n = 32 + 8 * K + heldL l + 8 := by have := HQQ.out; omega
            rw [e2, e3] at hy1
            rw [e4] at hy2
            by_cases hb : y1 = false ∨ y2 = false
            · rw [if_pos hb]
              exact datG_sum HHO.out.hn HLK.out e5 y1 y2 hy1 hy2 hb
            · rw [if_neg hb, e2]
              obtain rfl : y1 = true := by cases y1 with | true => rfl | false => exact absurd (.inl rfl) hb
              obtain rfl : y2 = true := by cases y2 with | true => rfl | false => exact absurd (.inr rfl) hb
              exact datG_ok HHO.out.hn HLK.out e5 hy1 hy2)
          have hTn : T2 + 8 ≤ n := by omega
          have hMn : M ≤ n := by omega
          have HT2 := Lib.hid hT2
          have hET2 : E + 4 ≤ T2 := by omega
          clear hy1 hy2 hlen hT2 hMM
          by_cases hbad : y1 = false ∨ y2 = false
          · have HE0 : Hid (getG b = (9, 0, [], [])) := (show _ = _ by rw [HROW.out, HDG.out, if_pos hbad]; rfl)
            clear HDG HROW
            rcases Bool.eq_false_or_eq_true y1 with e1 | e1
            · obtain rfl : y2 = false := hbad.resolve_left (by rw [e1]; simp)
              subst e1
              clear hbad
              go_wp2_with fail
              refine HMM.out.mono ?_
              rintro e wm ⟨rfl, hbm⟩
              have HBm := Lib.hid (HB.out.trans (hbm.mono HB.out.size))
              have HCm := Lib.hid (HB10.out.trans (HBm.out.mono HB10.out.size))
              clear hbm d0 d1 d2 hlm
              go_wp2_with fail
              refine (HS1.out wm HCm.out).mono ?_
              rintro e wn ⟨rfl, hbn⟩
              have HBn := Lib.hid (HBm.out.trans (hbn.mono HBm.out.size))
              have HCn := Lib.hid (HB10.out.trans (HBn.out.mono HB10.out.size))
              clear hbn
              go_wp2_with fail
              refine (HS2.out wn HCn.out).mono ?_
              rintro e wo ⟨rfl, hbo⟩
              have HBo := Lib.hid (HBn.out.trans (hbo.mono HBn.out.size))
              have HBr := Lib.hid (HB10.out.trans (HBo.out.mono HB10.out.size))
              have HNr := Lib.hid ((HBo.out.block _ (heap_lt1 HN10.out)).trans HN10.out)
              clear hbo
              have n9 := HNr.out
              have hl9 := heap_lt1 n9
              obtain ⟨f0, f1, f2⟩ := im_thaw n9
              obtain ⟨z0, z1, z2⟩ := rk_cells n9
              have HM := Lib.hid (im_set n9 (.int .i64 0) (.slice none 0 0) (.slice none 0 0))
              have HF := Lib.hid (((HBr.out.setCell (p := ⟨w.heap.size, 0, none⟩) (Nat.le_refl _) (.int .i64 0)).setCell (p := ⟨w.heap.size, 1, none⟩) (Nat.le_refl _) (.slice none 0 0)).setCell (p := ⟨w.heap.size, 2, none⟩) (Nat.le_refl _) (.slice none 0 0))
              clear n9
              go_wp2
              (try simp only [Exit.inBlock, Exit.then])
              refine rim_ret (g := w.heap.size) (x := .int .i64 9) Try.results15 ?_ ?_ ?_ HM.out ?_
              · rfl
              · rfl
              · rfl
              · rw [← HGG.out, HE0.out]; exact GotR.err rfl HF.out
            · subst e1
              clear hbad
              cases y2 with
              | false =>
                go_wp2_with fail
                refine HMM.out.mono ?_
                rintro e wm ⟨rfl, hbm⟩
                have HBm := Lib.hid (HB.out.trans (hbm.mono HB.out.size))
                have HCm := Lib.hid (HB10.out.trans (HBm.out.mono HB10.out.size))
                clear hbm d0 d1 d2 hlm
                go_wp2_with fail
                refine (HS1.out wm HCm.out).mono ?_
                rintro e wn ⟨rfl, hbn⟩
                have HBn := Lib.hid (HBm.out.trans (hbn.mono HBm.out.size))
                have HCn := Lib.hid (HB10.out.trans (HBn.out.mono HB10.out.size))
                clear hbn
                go_wp2_with fail
                refine (HS2.out wn HCn.out).mono ?_
                rintro e wo ⟨rfl, hbo⟩
                have HBo := Lib.hid (HBn.out.trans (hbo.mono HBn.out.size))
                have HBr := Lib.hid (HB10.out.trans (HBo.out.mono HB10.out.size))
                have HNr := Lib.hid ((HBo.out.block _ (heap_lt1 HN10.out)).trans HN10.out)
                clear hbo
                have n9 := HNr.out
                have hl9 := heap_lt1 n9
                obtain ⟨f0, f1, f2⟩ := im_thaw n9
                obtain ⟨z0, z1, z2⟩ := rk_cells n9
                have HM := Lib.hid (im_set n9 (.int .i64 0) (.slice none 0 0) (.slice none 0 0))
                have HF := Lib.hid (((HBr.out.setCell (p := ⟨w.heap.size, 0, none⟩) (Nat.le_refl _) (.int .i64 0)).setCell (p := ⟨w.heap.size, 1, none⟩) (Nat.le_refl _) (.slice none 0 0)).setCell (p := ⟨w.heap.size, 2, none⟩) (Nat.le_refl _) (.slice none 0 0))
                clear n9
                go_wp2
                (try simp only [Exit.inBlock, Exit.then])
                refine rim_ret (g := w.heap.size) (x := .int .i64 9) Try.results15 ?_ ?_ ?_ HM.out ?_
                · rfl
                · rfl
                · rfl
                · rw [← HGG.out, HE0.out]; exact GotR.err rfl HF.out
              | true =>
                go_wp2_with fail
                refine HMM.out.mono ?_
                rintro e wm ⟨rfl, hbm⟩
                have HBm := Lib.hid (HB.out.trans (hbm.mono HB.out.size))
                have HCm := Lib.hid (HB10.out.trans (HBm.out.mono HB10.out.size))
                clear hbm d0 d1 d2 hlm
                go_wp2_with fail
                refine (HS1.out wm HCm.out).mono ?_
                rintro e wn ⟨rfl, hbn⟩
                have HBn := Lib.hid (HBm.out.trans (hbn.mono HBm.out.size))
                have HCn := Lib.hid (HB10.out.trans (HBn.out.mono HB10.out.size))
                clear hbn
                go_wp2_with fail
                refine (HS2.out wn HCn.out).mono ?_
                rintro e wo ⟨rfl, hbo⟩
                have HBo := Lib.hid (HBn.out.trans (hbo.mono HBn.out.size))
                have HBr := Lib.hid (HB10.out.trans (HBo.out.mono HB10.out.size))
                have HNr := Lib.hid ((HBo.out.block _ (heap_lt1 HN10.out)).trans HN10.out)
                clear hbo
                have n9 := HNr.out
                have hl9 := heap_lt1 n9
                obtain ⟨f0, f1, f2⟩ := im_thaw n9
                obtain ⟨z0, z1, z2⟩ := rk_cells n9
                have HM := Lib.hid (im_set n9 (.int .i64 0) (.slice none 0 0) (.slice none 0 0))
                have HF := Lib.hid (((HBr.out.setCell (p := ⟨w.heap.size, 0, none⟩) (Nat.le_refl _) (.int .i64 0)).setCell (p := ⟨w.heap.size, 1, none⟩) (Nat.le_refl _) (.slice none 0 0)).setCell (p := ⟨w.heap.size, 2, none⟩) (Nat.le_refl _) (.slice none 0 0))
                clear n9
                go_wp2
                (try simp only [Exit.inBlock, Exit.then])
                refine rim_ret (g := w.heap.size) (x := .int .i64 9) Try.results15 ?_ ?_ ?_ HM.out ?_
                · rfl
                · rfl
                · rfl
                · rw [← HGG.out, HE0.out]; exact GotR.err rfl HF.out
          · obtain rfl : y1 = true := by cases y1 with | true => rfl | false => exact absurd (.inl rfl) hbad
            obtain rfl : y2 = true := by cases y2 with | true => rfl | false => exact absurd (.inr rfl) hbad
            rw [if_neg hbad] at HDG
            have HE0 : Hid (getG b = (0, N, l, cutL l (b.drop (E + 4)))) := (show _ = _ by rw [HROW.out, HDG.out]; rfl)
            clear HDG HROW hbad
            go_wp2_with fail
            refine HMM.out.mono ?_
            rintro e wm ⟨rfl, hbm⟩
            have HIMm := Lib.hid (HIM.out.stay hbm)
            have HBm := Lib.hid (HB.out.trans (hbm.mono HB.out.size))
            have HCm := Lib.hid (HB10.out.trans (HBm.out.mono HB10.out.size))
            clear hbm d0 d1 d2 hlm
            go_wp2_with fail
            refine (HS1.out wm HCm.out).mono ?_
            rintro e wn ⟨rfl, hbn⟩
            have HIMn := Lib.hid (HIMm.out.stay hbn)
            have HBn := Lib.hid (HBm.out.trans (hbn.mono HBm.out.size))
            have HCn := Lib.hid (HB10.out.trans (HBn.out.mono HB10.out.size))
            clear hbn
            go_wp2_with fail
            refine (HS2.out wn HCn.out).mono ?_
            rintro e wo ⟨rfl, hbo⟩
            have HIMo := Lib.hid (HIMn.out.stay hbo)
            have HBo := Lib.hid (HBn.out.trans (hbo.mono HBn.out.size))
            clear hbo HIMn HIMm HBm HCm HBn HCn HS1 HS2 HMM HIM HB HSANY HNUM
            go_wp2_with fail
            obtain ⟨F, hF⟩ : ∃ F, cutL l (b.drop (E + 4)) = F := ⟨_, rfl⟩
            have hFl : F.length = dl := by rw [← hF, cutL_len, HDL.out]
            have hheld : heldL l ≤ (b.drop (E + 4)).length := by rw [List.length_drop, HHO.out.hn]; have := HQQ.out; have := HT2.out; omega
            have HCUT := Lib.hid (fun (i : Nat) (y : List UInt8) (h : F[i]? = some y) => cutL_get (l := l) (b := b.drop (E + 4)) (j := i) (y := y) hheld (by rw [hF]; exact h))
            rw [hF] at HCUT HE0
            have HFL := Lib.hid hFl
            have HQL : Hid (E + 4 + heldL l = T2) := (show _ = _ by rw [← HQQ.out]; exact HT2.out)
            clear hF hFl hheld
            go_loopw [19, 20] (fun o t W => ∃ (i p : Nat) (d : List (List UInt8)) (xs : List Value), o = .int .i64 (p : Int) ∧ t = .int .i64 (i : Int) ∧ i ≤ dl ∧ p = E + 4 + (F.take i).flatten.length ∧ p ≤ T2 ∧ d = F.take i ++ (zerL l).drop i ∧ d.length = dl ∧ ImB w10.heap.size w10.heap.size (N : Int) A1 c1 l A2 c2 d xs W ∧ Below w10.heap.size w10 W) (fun _ t _ => dl - (intOf t).toNat)
            case atStart => exact ⟨0, E + 4, zerL l, xs, by go_num, rfl, Nat.zero_le _, by simp, by omega, by simp, HDL.out, HIMo.out, HBo.out⟩
            case round =>
              obtain ⟨i, p2, d, xs2, rfl, rfl, hi', hp2, hpT, hd, hdl2, him, hb⟩ := hrel
              have ho := him.obj
              rw [HLL.out, hdl2] at ho
              obtain ⟨d0, d1, d2⟩ := rk_cells ho
              have hlm := heap_lt1 ho
              by_cases hlt : i < dl
              · obtain ⟨y, hy⟩ : ∃ y, F[i]? = some y := ⟨F[i]'(by rw [HFL.out]; exact hlt), List.getElem?_eq_getElem _⟩
                obtain ⟨k1, k2, k3⟩ := HCUT.out i y hy
                have hdi : d[i]? = some (List.replicate y.length 0) := by
                  rw [hd, List.getElem?_append_right (by rw [List.length_take]; omega), List.length_take, List.getElem?_drop, show i + (i - min i F.length) = i from by rw [HFL.out]; omega]
                  exact k2
                obtain ⟨hyl, A', k', hx, _⟩ := him.dt i _ hdi
                obtain ⟨qb, rfl, hql, hqc⟩ := him.row (by omega)
                have hcell := hqc i _ (by omega) hx
                rw [List.length_replicate] at hcell hyl
                have hpy : p2 + y.length ≤ T2 := by have := HQL.out; omega
                have hRY := HRR.out wr (HB10.out.trans (hb.mono HB10.out.size)) p2 y.length (by omega)
                have hye : (b.drop p2).take y.length = y := by
                  rw [hp2, ← List.drop_drop]
                  exact k1.symm
                rw [hye] at hRY
                have hset : d.set i y = F.take (i + 1) ++ (zerL l).drop (i + 1) := by
                  rw [hd, drop_at k2, take_snoc hy, List.append_assoc]
                  rw [List.set_append_right _ _ (by rw [List.length_take]; omega)]
                  rw [List.length_take, show i - min i F.length = 0 from by rw [HFL.out]; omega]
                  rfl
                have hp3 : p2 + y.length = E + 4 + (F.take (i + 1)).flatten.length := by rw [flat_take hy, List.length_append]; omega
                obtain ⟨wD, hwD⟩ : ∃ wD, wr.drew = wD := ⟨_, rfl⟩
                have hbD : Below wr.heap.size wr wD := by rw [← hwD]; exact (Below.refl _ _).drew
                have himD := him.stay hbD
                have hBD := hb.trans (hbD.mono hb.size)
                have hRD := hRY.below ((hbD).mono (HB10.out.trans (hb.mono HB10.out.size)).size)
                have hoD := himD.obj
                rw [HLL.out, hdl2] at hoD
                obtain ⟨f0, f1, f2⟩ := rk_cells hoD
                have hlD := himD.lt
                have HWDD := Lib.hid hwD
                obtain ⟨wE, hwE⟩ : ∃ wE, wD.alloc (.cells #[] 5) = wE := ⟨_, rfl⟩
                have hro := run_none21 wD
                rw [hwE] at hro
                have hbE : Below wD.heap.size wD wE := by rw [← hwE]; exact (Below.refl _ _).alloc (Nat.le_refl _) _
                have owE : wE.ownsRow wD.heap.size 5 1 (.slice (some ⟨wD.heap.size, 0, none⟩) 0 0) 0 (([] : List UInt8).map bv) := by rw [← hwE]; exact World.ownsRow_lit wD _ 0 (Nat.le_refl _) (by unfold maxLen; omega) rfl
                have hRE := hRD.below (hbE.mono (by have := (HB10.out.trans (hBD.mono HB10.out.size)).size; omega))
                have HIMD := Lib.hid himD
                have HBDD := Lib.hid hBD
                have HOWE := Lib.hid owE
                have HRE := Lib.hid hRE
                have HSET := Lib.hid hset
                have HP3 := Lib.hid hp3
                have HDL2 := Lib.hid hdl2
                have hpb2 : p2 + y.length ≤ 900000 := by omega
                have hyb : y.length ≤ 100000 := hyl
                have hs1 : (p2 : Int) + (y.length : Int) ≤ (c : Int) := by omega
                have hs2 : (p2 : Int) < (c : Int) := by omega
                obtain ⟨j0, ji, jz0, jz1, jz2⟩ := info_parts u8_info
                clear hwD hbD himD hBD hRD hoD hwE owE hRE hset hp3 hdl2 hd hdi k1 k2 k3 hy hye hRY hx hqc him hb ho hp2 hyl
                go_wp2_with fail
                refine wp_region_tail wD.heap.size [([0, 1, 2, 4, 5, 6, 7, 8, 9], 3), ([], 10)] [11] [12] (by kernel_rfl) (by kernel_rfl) (by kernel_rfl) (fun _ _ _ _ _ h => h) ?_
                rw [HWDD.out]
                have q2 : ∀ z : LaterB wD.heap.size wD, z.val.cell? ⟨w10.heap.size, 2, none⟩ = some (.slice (some ⟨qb, 0, none⟩) dl c2) := fun z => (z.ext.cell (p := ⟨w10.heap.size, 2, none⟩) hlD).trans f2
                have s2 : 0 ≤ (p2 : Int) + (y.length : Int) := by omega
                have s3 : ((p2 : Int) + (y.length : Int)).toNat = p2 + y.length := by omega
                have s4 : IntKind.i64.wrap ((p2 : Int) + (y.length : Int)) = (p2 : Int) + (y.length : Int) := by rw [IntKind.wrap_i64]; omega
                refine tail_cons (l := ?segD) ?hsegD ?_
                case hsegD => simp only [pick, List.getElem?_toArray, List.getElem?_cons_succ, List.getElem?_cons_zero]; rfl
                repeat (go_big_quiet_step (fail))
                refine wpQuiet_nil ?_
                clear q2 s2 s3 s4
                refine tail_val2 (some 181) (w1 := wE) (v := .slice (some ⟨wD.heap.size, 0, none⟩) 0 0) rfl rfl rfl ?rv3 hbE ⟨wD.heap.size, Nat.le_refl _, ?_⟩
                case rv3 => exact bslice_run rfl rfl hro
                simp only [Act.put, List.setIfInBounds_toArray, List.set_cons_zero, List.set_cons_succ]
                refine tail_cons (l := []) rfl (wpQuiet_nil ?_)
                refine tail_bytes21 (some 188) (.tmp 181) (.tmp 187) 31 5 rfl rfl rfl rfl Try.underlying31 u8_info (.slice (some ⟨wD.heap.size, 0, none⟩) 0 0) 0 [] rfl HOWE.out hbE.size w.heap.size ⟨g, off + p2, none⟩ y.length (c - p2) y rfl HRE.out (by omega) ?_
                intro x8 w8 own8 hb8
                obtain ⟨A8, c8, rfl, _⟩ := own_slc own8
                have own8' : w8.ownsRow 0 5 1 (.slice A8 y.length c8) y.length (y.map bv) := own_lift (by simpa using own8) (Nat.zero_le _)
                have hbE8 := hbE.trans hb8
                have him8 := HIMD.out.stay hbE8
                obtain ⟨q', e', ⟨u8, k0⟩, k1, hqg, him9, hb9⟩ := him8.setD (j := i) (by rw [HDL2.out]; exact hlt) hyb own8' (HBDD.out.trans (hbE8.mono HBDD.out.size)) (Nat.le_refl _)
                injection e' with e'
                injection e' with e1 _ _
                subst e1
                rw [HSET.out] at him9
                have hl8 := Nat.lt_of_lt_of_le hlD hbE8.size
                have HIM9 := Lib.hid him9
                have HB9x := Lib.hid hb9
                refine ⟨wD.heap.size, Nat.le_refl _, ?_⟩
                have hzero : (0 : Nat) + y.length = y.length := Nat.zero_add _
                rw [hzero]
                clear own8 own8' hb8 hbE8 him8 him9 hb9 hro hbE f0 f1 f2 hlD hqg hzero
                simp only [Act.put, List.setIfInBounds_toArray, List.set_cons_zero, List.set_cons_succ]
                refine tail_last (l := ?lastD) (t := ?tailD) ?hlastD ?htailD ?_
                case hlastD => simp only [pick, List.getElem?_toArray, List.getElem?_cons_succ, List.getElem?_cons_zero]; rfl
                case htailD => simp only [pick, List.getElem?_toArray, List.getElem?_cons_succ, List.getElem?_cons_zero]; rfl
                repeat (go_big_quiet_step (fail))
                refine wpQuiet_nil ?_
                go_wp2
                go_roundw
                case rel => exact ⟨i + 1, p2 + y.length, F.take (i + 1) ++ (zerL l).drop (i + 1), _, by go_num, by go_num, by omega, HP3.out, hpy, rfl, by rw [← HSET.out, List.length_set]; exact HDL2.out, HIM9.out, HB9x.out⟩
                case measure => simp only [intOf]; omega
              · have hid : i = dl := by omega
                have hdF : d = F := by
                  rw [hd, hid, List.take_of_length_le (by rw [HFL.out]; omega), List.drop_eq_nil_of_le (by rw [HDL.out]; omega), List.append_nil]
                subst hdF
                have HNr := (hb.block _ (heap_lt1 HN10.out)).trans HN10.out
                have HBr := HB10.out.trans (hb.mono HB10.out.size)
                have hl9 := heap_lt1 HNr
                obtain ⟨t0, t1, t2⟩ := im_thaw HNr
                obtain ⟨z0, z1, z2⟩ := rk_cells HNr
                have HM := Lib.hid (im_set HNr (.int .i64 (N : Int)) (.slice A1 ll c1) (.slice A2 dl c2))
                have HF := Lib.hid (((HBr.setCell (p := ⟨w.heap.size, 0, none⟩) (Nat.le_refl _) (.int .i64 (N : Int))).setCell (p := ⟨w.heap.size, 1, none⟩) (Nat.le_refl _) (.slice A1 ll c1)).setCell (p := ⟨w.heap.size, 2, none⟩) (Nat.le_refl _) (.slice A2 dl c2))
                have HLAID := Lib.hid (him.laid (heap_lt1 HN10.out) HNr (.int .i64 (N : Int)) (.slice A1 ll c1) (.slice A2 dl c2))
                have HFL2 := Lib.hid hdl2
                clear HNr HBr him hb ho hd hdl2 hp2
                go_wp2
                (try simp only [Exit.inBlock, Exit.then])
                refine rim_ret (g := w.heap.size) (x := .int .i64 0) Try.results15 ?_ ?_ ?_ HM.out ?_
                · rfl
                · rfl
                · rfl
                · rw [← HGG.out, HE0.out]
                  exact ⟨A1, A2, c1, c2, by dsimp only; rw [HLL.out, HFL2.out]; rfl, HLAID.out.1, HLAID.out.2, HF.out⟩
        · have gl : ((n : Int) != (E : Int) + 4 + (q : Int) + 8) = true := by rw [bne_iff_ne]; omega
          have HE0 : Hid (getG b = (3, 0, [], [])) := (show _ = _ by
            have e1 := HET.out
            rw [HROW.out, datG_len HHO.out.hn HLK.out (by have := HQQ.out; omega)]
            rfl)
          clear hlen HROW
          go_wp2_with fail
          refine HMM.out.mono ?_
          rintro e wm ⟨rfl, hbm⟩
          have HNr := Lib.hid ((hbm.block _ (Nat.lt_of_lt_of_le (heap_lt1 HN10.out) HB.out.size)).trans ((HB.out.block _ (heap_lt1 HN10.out)).trans HN10.out))
          have HBr := Lib.hid (HB10.out.trans ((HB.out.trans (hbm.mono HB.out.size)).mono HB10.out.size))
          clear hbm d0 d1 d2 hlm
          have n9 := HNr.out
          have hl9 := heap_lt1 n9
          obtain ⟨f0, f1, f2⟩ := im_thaw n9
          obtain ⟨z0, z1, z2⟩ := rk_cells n9
          have HM := Lib.hid (im_set n9 (.int .i64 0) (.slice none 0 0) (.slice none 0 0))
          have HF := Lib.hid (((HBr.out.setCell (p := ⟨w.heap.size, 0, none⟩) (Nat.le_refl _) (.int .i64 0)).setCell (p := ⟨w.heap.size, 1, none⟩) (Nat.le_refl _) (.slice none 0 0)).setCell (p := ⟨w.heap.size, 2, none⟩) (Nat.le_refl _) (.slice none 0 0))
          clear n9
          go_wp2
          (try simp only [Exit.inBlock, Exit.then])
          refine rim_ret (g := w.heap.size) (x := .int .i64 3) Try.results15 ?_ ?_ ?_ HM.out ?_
          · rfl
          · rfl
          · rfl
          · rw [← HGG.out, HE0.out]; exact GotR.err rfl HF.out

end Go.Proofs.Ytlhahibdddcpfaa
