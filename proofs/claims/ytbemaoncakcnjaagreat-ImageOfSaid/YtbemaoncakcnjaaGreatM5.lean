/- Texts of mine, joined: Img16, Img19, Law15a. -/
import Derived.Laws.OwnMore
import Derived.Test.YtbemaoncakcnjaaGreatM4

/- The document's Same, of images alike. -/
namespace Go.Proofs.YtbemaoncakcnjaaGreat
open Go.RowKit

set_option maxRecDepth 100000 in
set_option maxHeartbeats 2000000 in
theorem rsame_eq (w : World) (n : Int) (A1 A2 C1 C2 : Option Addr) (k1 k2 e1 e2 : Nat) (l : List Rk) (d : List (List UInt8)) (hr : RkRd w w.heap.size A1 l) (hd : DtRd w w.heap.size A2 d) (hr2 : RkRd w w.heap.size C1 l) (hd2 : DtRd w w.heap.size C2 d) (hl : l.length ≤ 1000000) (hdl : d.length ≤ 1000000) :
    Calls Tryz.prog 8 #[imV n A1 l.length k1 A2 d.length k2, imV n C1 l.length e1 C2 d.length e2] w fun e w' => e = .returned (.bool true) ∧ Below w.heap.size w w' := by
  unfold imV
  obtain ⟨w1, hw1⟩ : ∃ w1, w.alloc (.cells #[.int .i64 n, .slice A1 l.length k1, .slice A2 d.length k2] 38) = w1 := ⟨_, rfl⟩
  obtain ⟨w2, hw2⟩ : ∃ w2, w1.alloc (.cells #[.int .i64 n, .slice C1 l.length e1, .slice C2 d.length e2] 38) = w2 := ⟨_, rfl⟩
  have hb1 : Below w.heap.size w w1 := by rw [← hw1]; exact (Below.refl _ _).alloc (Nat.le_refl _) _
  have hb2 : Below w1.heap.size w1 w2 := by rw [← hw2]; exact (Below.refl _ _).alloc (Nat.le_refl _) _
  have n1 : w1.heap[w.heap.size]? = some (.cells #[.int .i64 n, .slice A1 l.length k1, .slice A2 d.length k2] 38 (0, 0)) := by rw [← hw1]; exact heap_alloc_new w _
  have m2 : w2.heap[w1.heap.size]? = some (.cells #[.int .i64 n, .slice C1 l.length e1, .slice C2 d.length e2] 38 (0, 0)) := by rw [← hw2]; exact heap_alloc_new w1 _
  have n2 := (hb2.block _ (heap_lt1 n1)).trans n1
  have HR := Lib.hid hr
  have HD := Lib.hid hd
  have HR2 := Lib.hid hr2
  have HD2 := Lib.hid hd2
  have HW1 := Lib.hid hw1
  have HW2 := Lib.hid hw2
  have HB2 := Lib.hid (hb1.trans (hb2.mono hb1.size))
  have HN2 := Lib.hid n2
  have HM2 := Lib.hid m2
  obtain ⟨m, hm⟩ : ∃ m, l.length = m := ⟨_, rfl⟩
  obtain ⟨dm, hdm⟩ : ∃ dm, d.length = dm := ⟨_, rfl⟩
  rw [hm, hdm] at HW1 HW2 HN2 HM2
  rw [hm] at hl
  rw [hdm] at hdl
  rw [hm, hdm]
  have HLM := Lib.hid hm
  have HDM := Lib.hid hdm
  obtain ⟨a0, a1, a2⟩ := rk_cells HN2.out
  obtain ⟨b0, b1, b2⟩ := rk_cells HM2.out
  have la := heap_lt1 HN2.out
  have lb := heap_lt1 HM2.out
  clear hr hd hr2 hd2 hw1 hw2 hb1 hb2 n1 m2 n2 hm hdm
  go_enter Tryz.func8, Tryz.ntmps8
  go_wp2_with (first | (rw [HW1.out]) | (rw [HW2.out]) | fail)
  go_loopw [5] (fun t wr => ∃ (j : Nat), t = .int .i64 (j : Int) ∧ j ≤ m ∧ Below w2.heap.size w2 wr) (fun t _ => m - (intOf t).toNat)
  case atStart => exact ⟨0, rfl, Nat.zero_le _, Below.refl _ _⟩
  case round =>
    obtain ⟨j, rfl, hj, hb⟩ := hrel
    have a1' := (hb.cell (p := ⟨w.heap.size, 1, none⟩) la).trans a1
    have a2' := (hb.cell (p := ⟨w.heap.size, 2, none⟩) la).trans a2
    have b1' := (hb.cell (p := ⟨w1.heap.size, 1, none⟩) lb).trans b1
    have b2' := (hb.cell (p := ⟨w1.heap.size, 2, none⟩) lb).trans b2
    have lw := hb.size
    have lah : w.heap.size < wr.heap.size := by omega
    have lbh : w1.heap.size < wr.heap.size := by omega
    have HBW := Lib.hid hb
    clear hb
    by_cases hlt : j < m
    · obtain ⟨x, hx⟩ : ∃ x, l[j]? = some x := ⟨l[j]'(by rw [HLM.out]; exact hlt), List.getElem?_eq_getElem _⟩
      obtain ⟨g, o, rfl, hg, hcl⟩ := HR.out (by rw [HLM.out]; omega)
      obtain ⟨g', o', rfl, hg', hcl'⟩ := HR2.out (by rw [HLM.out]; omega)
      have hww := HB2.out.trans (HBW.out.mono HB2.out.size)
      obtain ⟨p0, p1, p2, _⟩ := hcl j x hx
      obtain ⟨p0', p1', p2', _⟩ := hcl' j x hx
      have r0 := (hww.cell (p := ⟨g, o + j * 3, none⟩) hg).trans p0
      have r1 := (hww.cell (p := ⟨g, o + j * 3 + 1, none⟩) hg).trans p1
      have r2 := (hww.cell (p := ⟨g, o + j * 3 + 2, none⟩) hg).trans p2
      have r0' := (hww.cell (p := ⟨g', o' + j * 3, none⟩) hg').trans p0'
      have r1' := (hww.cell (p := ⟨g', o' + j * 3 + 1, none⟩) hg').trans p1'
      have r2' := (hww.cell (p := ⟨g', o' + j * 3 + 2, none⟩) hg').trans p2'
      have lg : g < wr.heap.size := Nat.lt_of_lt_of_le hg hww.size
      have lg' : g' < wr.heap.size := Nat.lt_of_lt_of_le hg' hww.size
      obtain ⟨xo, xs, xu⟩ := x
      dsimp only at r0 r1 r2 r0' r1' r2'
      clear p0 p1 p2 p0' p1' p2' hcl hcl' hx hww
      go_wp2_with fail
      go_quiet (fail)
      go_wp2
      go_roundw
      case rel => exact ⟨j + 1, by go_num, by omega, HBW.out.trans ((below_dN _ _).mono HBW.out.size)⟩
      case measure => simp only [intOf]; omega
    · clear a1' b1'
      have hj2 : ¬ j < m := hlt
      have a1' := (HBW.out.cell (p := ⟨w.heap.size, 1, none⟩) la).trans a1
      have b1' := (HBW.out.cell (p := ⟨w1.heap.size, 1, none⟩) lb).trans b1
      go_wp2_with fail
      go_loopw [6] (fun t W => ∃ (i : Nat), t = .int .i64 (i : Int) ∧ i ≤ dm ∧ Below w2.heap.size w2 W) (fun t _ => dm - (intOf t).toNat)
      case atStart => exact ⟨0, rfl, Nat.zero_le _, HBW.out⟩
      case round =>
        obtain ⟨i, rfl, hi, hb⟩ := hrel
        clear a1' a2' b1' b2' lah lbh lw
        have a1' := (hb.cell (p := ⟨w.heap.size, 1, none⟩) la).trans a1
        have a2' := (hb.cell (p := ⟨w.heap.size, 2, none⟩) la).trans a2
        have b1' := (hb.cell (p := ⟨w1.heap.size, 1, none⟩) lb).trans b1
        have b2' := (hb.cell (p := ⟨w1.heap.size, 2, none⟩) lb).trans b2
        have lw := hb.size
        have lah : w.heap.size < wr.heap.size := by omega
        have lbh : w1.heap.size < wr.heap.size := by omega
        have HBX := Lib.hid hb
        clear hb
        by_cases hlt : i < dm
        · obtain ⟨x, hx⟩ : ∃ x, d[i]? = some x := ⟨d[i]'(by rw [HDM.out]; exact hlt), List.getElem?_eq_getElem _⟩
          obtain ⟨g, o, rfl, hg, hcl⟩ := HD.out (by rw [HDM.out]; omega)
          obtain ⟨g', o', rfl, hg', hcl'⟩ := HD2.out (by rw [HDM.out]; omega)
          have hww := HB2.out.trans (HBX.out.mono HB2.out.size)
          obtain ⟨P, kp, p0, pr, _⟩ := hcl i x hx
          obtain ⟨P', kp', p0', pr', _⟩ := hcl' i x hx
          have r0 := (hww.cell (p := ⟨g, o + i, none⟩) hg).trans p0
          have r0' := (hww.cell (p := ⟨g', o' + i, none⟩) hg').trans p0'
          have HP := Lib.hid (pr.below hww)
          have HP' := Lib.hid (pr'.below hww)
          have lg : g < wr.heap.size := Nat.lt_of_lt_of_le hg hww.size
          have lg' : g' < wr.heap.size := Nat.lt_of_lt_of_le hg' hww.size
          obtain ⟨xn, hxn⟩ : ∃ xn, x.length = xn := ⟨_, rfl⟩
          obtain ⟨S, hS⟩ : ∃ S, strB x = S := ⟨_, rfl⟩
          rw [hxn] at r0 r0' HP HP'
          have q0 : ∀ k : Nat, (convert 23 9 (.slice P xn kp)).run Tryz.prog (wr.drewN k) = .ok (.string S) (wr.drewN k) := fun k => by rw [← hS]; exact conv_rd (HP.out.below (below_dN _ _ |>.mono hww.size))
          have q0' : ∀ k : Nat, (convert 23 9 (.slice P' xn kp')).run Tryz.prog (wr.drewN k) = .ok (.string S) (wr.drewN k) := fun k => by rw [← hS]; exact conv_rd (HP'.out.below (below_dN _ _ |>.mono hww.size))
          clear p0 pr p0' pr' hcl hcl' hx hww hxn hS
          go_wp2_with fail
          go_quiet (fail)
          go_wp2
          go_roundw
          case rel => exact ⟨i + 1, by go_num, by omega, HBX.out.trans ((below_dN _ _).mono HBX.out.size)⟩
          case measure => simp only [intOf]; omega
        · go_wp2
          go_ret
          exact ⟨rfl, HB2.out.trans (HBX.out.mono HB2.out.size)⟩
end Go.Proofs.YtbemaoncakcnjaaGreat

/- An image of the document's in the making: its object, its row of blocks, its row of data. -/
namespace Go.Proofs.YtbemaoncakcnjaaGreat
open Go.RowKit

/-- Blocks as cells. -/
def flatR : List Rk → List Value
  | [] => []
  | x :: r => .int .i64 x.o :: .int .i64 x.s :: .bool x.u :: flatR r
theorem flatR_get : ∀ (l : List Rk) (i : Nat) (x : Rk), l[i]? = some x → (flatR l)[i * 3]? = some (.int .i64 x.o) ∧ (flatR l)[i * 3 + 1]? = some (.int .i64 x.s) ∧ (flatR l)[i * 3 + 2]? = some (.bool x.u)
  | [], _, _, h => by simp at h
  | y :: r, 0, x, h => by
    simp at h; subst h
    exact ⟨rfl, rfl, rfl⟩
  | y :: r, i + 1, x, h => by
    have := flatR_get r i x (by simpa using h)
    have e : (i + 1) * 3 = i * 3 + 1 + 1 + 1 := by omega
    rw [e]
    exact ⟨by simpa [flatR] using this.1, by simpa [flatR] using this.2.1, by simpa [flatR] using this.2.2⟩
/-- A block's numbers are within what an int holds. -/
def rkIn (l : List Rk) : Prop := ∀ x ∈ l, (0 ≤ x.o ∧ x.o ≤ 1000000000) ∧ (0 ≤ x.s ∧ x.s ≤ 20000)
structure ImB (B g : Nat) (N : Int) (A1 : Option Addr) (c1 : Nat) (l : List Rk) (A2 : Option Addr) (c2 : Nat) (d : List (List UInt8)) (xs : List Value) (w : World) : Prop where
  obj : w.heap[g]? = some (.cells #[.int .i64 N, .slice A1 l.length c1, .slice A2 d.length c2] 38 (0, 0))
  rl : w.ownsRow B 51 3 (.slice A1 l.length c1) l.length (flatR l)
  rd : w.ownsRow B 23 1 (.slice A2 d.length c2) d.length xs
  dt : DtO w d xs
  hB : B ≤ g
  hl : rkIn l
section
variable {B g n : Nat} {N : Int} {A1 A2 : Option Addr} {c1 c2 : Nat} {l : List Rk} {d : List (List UInt8)} {xs : List Value} {w w3 w4 w' : World}
theorem ImB.stay (h : ImB B g N A1 c1 l A2 c2 d xs w) (hb : Below w.heap.size w w') : ImB B g N A1 c1 l A2 c2 d xs w' :=
  ⟨(hb.block _ (heap_lt1 h.obj)).trans h.obj, own_stay h.rl hb (own_ltB h.rl), own_stay h.rd hb (own_ltB h.rd), h.dt.stay hb, h.hB, h.hl⟩
theorem ImB.lt (h : ImB B g N A1 c1 l A2 c2 d xs w) : g < w.heap.size := heap_lt1 h.obj
theorem rk_of_row {w : World} {B c : Nat} {A : Option Addr} {l : List Rk} (h : w.ownsRow B 51 3 (.slice A l.length c) l.length (flatR l)) (hl : rkIn l) : RkRd w w.heap.size A l := fun hn => by
  rcases h.2 with ⟨hv, h0⟩ | ⟨b, cap, cur, hv, hbg, hg, hnc, hcm, hsz, htk⟩
  · omega
  · injection hv with e1 e2 e3
    subst e1
    refine ⟨b, 0, rfl, heap_lt1 hg, fun j x hx => ?_⟩
    have hj : j < l.length := (List.getElem?_eq_some_iff.1 hx).1
    obtain ⟨q0, q1, q2⟩ := flatR_get l j x hx
    have hb := hl x (List.mem_of_getElem? hx)
    have hc : ∀ (i : Nat) (v : Value), i < l.length * 3 → (flatR l)[i]? = some v → w.cell? ⟨b, i, none⟩ = some v := fun i v hi hv => by
      rw [cell_of_row _ _ _ _ _ _ hg]
      rw [← htk, List.getElem?_take, if_pos hi] at hv
      rw [← hv]; simp
    simp only [Nat.zero_add]
    exact ⟨hc _ _ (by omega) q0, hc _ _ (by omega) q1, hc _ _ (by omega) q2, by omega, by omega⟩
theorem ImB.rkrd (h : ImB B g N A1 c1 l A2 c2 d xs w) : RkRd w w.heap.size A1 l := rk_of_row h.rl h.hl
theorem ImB.off (h : ImB B g N A1 c1 l A2 c2 d xs w) {k : Nat} {cs : Array Value} {fz : Nat × Nat} {t : TypeId} (hk : w.heap[k]? = some (.cells cs t fz)) (ht : t ≠ 38) : g ≠ k := fun e => by
  subst e
  have h2 := h.obj
  rw [hk] at h2
  injection h2 with h2
  injection h2 with _ h2 _
  exact ht h2
/-- One more that holds something. -/
theorem ImB.pushD (h : ImB B g N A1 c1 l A2 c2 d xs w3) {y : List UInt8} {A : Option Addr} {k : Nat} {v : Value} (hy : y.length ≤ 100000) (oy : w3.ownsRow 0 5 1 (.slice A y.length k) y.length (y.map bv)) (own : w4.ownsRow B 23 1 v (d.length + 1) (xs ++ [.slice A y.length k])) (gr : w3.grownBy w4 (Value.slice A2 d.length c2).ownBlock) {B0 : Nat} {w0 : World} (hb : Below B0 w0 w3) (hB0 : B0 ≤ B) (hw0 : B0 ≤ w3.heap.size) :
    ∃ A2' c2', v = .slice A2' (d.length + 1) c2' ∧ w4.heap[g]? = w3.heap[g]? ∧ ImB B g N A1 c1 l A2' c2' (d ++ [y]) (xs ++ [.slice A y.length k]) (w4.setCell ⟨g, 2, none⟩ v) ∧ Below B0 w0 (w4.setCell ⟨g, 2, none⟩ v) := by
  have hrow := own_row h.rd
  have hg4 : w4.heap[g]? = w3.heap[g]? := gr.block g h.lt fun e => by
    obtain ⟨cs, fz, hc⟩ := hrow g e.symm
    exact h.off hc (by decide) rfl
  have obj4 := hg4.trans h.obj
  obtain ⟨A', c, rfl, _⟩ := own_slc own
  have hrl4 : w4.ownsRow B 51 3 (.slice A1 l.length c1) l.length (flatR l) := own_off h.rl gr fun k hk hrk => by
    obtain ⟨cs, fz, hc⟩ := hrow k hrk
    exact own_typ h.rl hk hc (by decide)
  have hlx : xs.length = d.length := by have := h.rd.1; omega
  have hdt4 : DtO w4 (d ++ [y]) (xs ++ [.slice A y.length k]) := (h.dt.grown gr fun k hk => by
    obtain ⟨cs, fz, hc⟩ := hrow k hk
    exact ⟨cs, _, fz, by decide, hc⟩).snoc hlx hy (own_off oy gr fun k hk hrk => by
      obtain ⟨cs, fz, hc⟩ := hrow k hrk
      exact own_typ oy hk hc (by decide))
  have gs := grown_set w4 g 2 (.slice A' (d.length + 1) c)
  have ge : ∀ k, (Value.slice A2 d.length c2).ownBlock = some k → B0 ≤ k := fun k hk => Nat.le_trans hB0 (own_ge h.rd k hk)
  refine ⟨A', c, rfl, hg4, ⟨?_, ?_, ?_, ?_, h.hB, h.hl⟩, ?_⟩
  · rw [List.length_append, List.length_singleton]
    exact heap_setCell_same w4 g 2 _ _ _ obj4
  · exact own_off hrl4 gs fun k hk hrk => by injection hrk with hrk; subst hrk; exact own_typ hrl4 hk obj4 (by decide)
  · rw [List.length_append, List.length_singleton]
    exact own_off own gs fun k hk hrk => by injection hrk with hrk; subst hrk; exact own_typ own hk obj4 (by decide)
  · exact hdt4.grown gs fun k hrk => by injection hrk with hrk; subst hrk; exact ⟨_, _, _, by decide, obj4⟩
  · exact (hb.grown gr hw0 ge).setCell (p := ⟨g, 2, none⟩) (Nat.le_trans hB0 h.hB) _
end
section
variable {B g : Nat} {N : Int} {A1 A2 : Option Addr} {c1 c2 : Nat} {l : List Rk} {d : List (List UInt8)} {xs : List Value} {w : World}
/-- The image laid into the result's block. -/
theorem ImB.laid (h : ImB B g N A1 c1 l A2 c2 d xs w) {g0 : Nat} (hg0 : g0 < B) {x0 x1 x2 : Value} (hg : w.heap[g0]? = some (.cells #[x0, x1, x2] 38 (0, 0))) (y0 y1 y2 : Value) :
    RkRd (((w.setCell ⟨g0, 0, none⟩ y0).setCell ⟨g0, 1, none⟩ y1).setCell ⟨g0, 2, none⟩ y2) (((w.setCell ⟨g0, 0, none⟩ y0).setCell ⟨g0, 1, none⟩ y1).setCell ⟨g0, 2, none⟩ y2).heap.size A1 l ∧ DtRd (((w.setCell ⟨g0, 0, none⟩ y0).setCell ⟨g0, 1, none⟩ y1).setCell ⟨g0, 2, none⟩ y2) (((w.setCell ⟨g0, 0, none⟩ y0).setCell ⟨g0, 1, none⟩ y1).setCell ⟨g0, 2, none⟩ y2).heap.size A2 d := by
  have s0 := grown_set w g0 0 y0
  have k1 := heap_setCell_same w g0 0 _ _ y0 hg
  have s1 := grown_set (w.setCell ⟨g0, 0, none⟩ y0) g0 1 y1
  have k2 := heap_setCell_same _ g0 1 _ _ y1 k1
  have s2 := grown_set ((w.setCell ⟨g0, 0, none⟩ y0).setCell ⟨g0, 1, none⟩ y1) g0 2 y2
  have hr : ∀ {w1 w2 : World} {t : TypeId} {size n : Nat} {v : Value} {ys : List Value}, w1.ownsRow B t size v n ys → w1.grownBy w2 (some g0) → w2.ownsRow B t size v n ys := fun ho hgr => own_off ho hgr fun k hk hrk => by
    injection hrk with hrk
    have := own_ge ho k hk
    omega
  have r1 := hr (hr (hr h.rl s0) s1) s2
  have r2 := hr (hr (hr h.rd s0) s1) s2
  have d1 := h.dt.grown s0 fun k hrk => by injection hrk with hrk; subst hrk; exact ⟨_, _, _, by decide, hg⟩
  have d2 := d1.grown s1 fun k hrk => by injection hrk with hrk; subst hrk; exact ⟨_, _, _, by decide, k1⟩
  have d3 := d2.grown s2 fun k hrk => by injection hrk with hrk; subst hrk; exact ⟨_, _, _, by decide, k2⟩
  exact ⟨rk_of_row r1 h.hl, d3.rd r2⟩
end
/-- append(own, src...) for bytes, at an operation ahead of the tail. -/
theorem tail_bytes21 {P : Program} {ops : Array Oper} {Q : Exit → Act → World → Prop} {i B : Nat} {o : Oper} {a : Act} {w : World} {K : Nat → Act → World → Prop} (d : Option Tmp) (s x : Operand) (t e : TypeId) (hoi : ops[i]? = some o) (hd : o.dst = d) (hw : Region.wanted o (yielded ops a.tmps) = true)
    (ho : o.op = .call { callee := .builtin .append, args := #[s, x], argTypes := #[t, t] }) (ht : P.underlying t = some (.slice e)) (hinfo : (P.info? e).map (fun i => (i.zero, i.size, i.bytes)) = some (some (.int .u8 0), 1, 1))
    (v : Value) (n : Nat) (bs : List UInt8) (hs : a.eval s = v) (hown : w.ownsRow B e 1 v n (bs.map bv)) (hB : B ≤ w.heap.size)
    (B2 : Nat) (A : Addr) (m c : Nat) (cs : List UInt8) (hx : a.eval x = .slice (some A) m c) (hr : Rd w B2 (some A) m cs) (hb : n + m ≤ 1000000)
    (h : ∀ v' w', w'.ownsRow B e 1 v' (n + m) ((bs ++ cs).map bv) → Below B w w' → ∃ B', B ≤ B' ∧ K B' (a.put d v') w') : wpOp P ops Q i (fun a'' w'' => Below B w w'' ∧ ∃ B', B ≤ B' ∧ K B' a'' w'') a w := by
  subst hd
  obtain ⟨i0, hi, hz0, hz1, hz2⟩ := info_parts hinfo
  unfold wpOp
  simp only [hoi]
  rw [if_pos hw]
  refine .inl (wp_append_own w s x t ho B e i0 (.int .u8 0) 1 1 ht hi hz0 hz1 hz2 rfl (by decide) v n _ hs hown A m c (cs.map bv) hx (by simp [hr.1]) (rd_cells hr) (bv_one cs) (by unfold maxLen; omega) (by omega) hB ?_)
  intro v' w' h1 h2 _
  have hb' : Below B w w' := (Below.refl _ _).grown h2 hB (fun k hk => (hown.lt k hk).1)
  exact ⟨hb', h v' w' (by simpa using h1) hb'⟩

theorem own_atB {w : World} {base n c : Nat} {t : TypeId} {A : Option Addr} {xs : List Value} (h : w.ownsRow base t 1 (.slice A n c) n xs) (hn : 0 < n) : ∃ g, A = some ⟨g, 0, none⟩ ∧ n ≤ c ∧ c ≤ 9223372036854775807 ∧ g < w.heap.size ∧ base ≤ g := by
  rcases h.2 with ⟨_, h0⟩ | ⟨g, cap, cur, hv, hb, hg, h1, h2, _⟩
  · omega
  · injection hv with e1 _ e3
    subst e1 e3
    unfold maxLen at h2
    exact ⟨g, rfl, h1, h2, heap_lt1 hg, hb⟩
theorem run_none21 (w : World) : (Instr.buildSlice 23 0 #[]).run Tryz.prog w = .ok (.slice (some ⟨w.heap.size, 0, none⟩) 0 0) (w.alloc (.cells #[] 5)) := by
  obtain ⟨i0, hi, hz0, hz1, hz2⟩ := info_parts u8_info
  have e : Array.range 0 = #[] := by decide
  simp [Instr.buildSlice, run_underlying Tryz.underlying23, sizeOf, typeInfo, hi, newRow, Instr.fill, e]
end Go.Proofs.YtbemaoncakcnjaaGreat

/- Layer 15's laws: the example at their head, Few, Like; ImagePuts. -/
namespace Go.Proofs.YtbemaoncakcnjaaGreat
open Go.RowKit

set_option maxRecDepth 100000 in
set_option maxHeartbeats 1000000 in
theorem up15_any (w : World) :
    Calls Tryz.prog 4 #[] w fun e w' => e = .returned (.bool true) ∧ Below w.heap.size w w' := by
  have HP := imput_ok w 184 (by omega) none none 0 0 [] [] (fun h => absurd h (by simp)) (fun h => absurd h (by simp)) (by simp) (by simp) (by simp) rfl
  rw [show (imPutB 184 [] []).length = 40 from b40_len, show imPutB 184 [] [] = b40 from rfl] at HP
  unfold imV at HP
  dsimp only [List.length_nil] at HP
  have HP := Lib.hid HP
  go_enter Tryz.func4, Tryz.ntmps4
  go_wp2_with fail
  refine HP.out.mono ?_
  rintro e w2 ⟨A, c, rfl, ho, hb⟩
  have hc : 40 ≤ c ∧ c ≤ 9223372036854775807 := by
    rcases ho.2 with ⟨_, h'⟩ | ⟨g, cap, cur, hv, _, _, h', h'', _⟩
    · omega
    · injection hv with _ _ e3
      subst e3
      unfold maxLen at h''
      exact ⟨h', h''⟩
  have HG := Lib.hid (imget_up w2 A c _ (own_reads ho) (Nat.le_refl _) hc.1 hc.2)
  have HB := Lib.hid hb
  clear ho hb hc HP
  go_wp2_with fail
  refine HG.out.mono ?_
  rintro e w3 ⟨A2, rfl, hb3⟩
  obtain ⟨w4, hw4⟩ : ∃ w4, w3.alloc (.cells #[.int .i64 184, .slice A2 0 0, .slice none 0 0] 31) = w4 := ⟨_, rfl⟩
  have hb4 : Below w3.heap.size w3 w4 := by rw [← hw4]; exact (Below.refl _ _).alloc (Nat.le_refl _) _
  have n4 : w4.heap[w3.heap.size]? = some (.cells #[.int .i64 184, .slice A2 0 0, .slice none 0 0] 31 (0, 0)) := by rw [← hw4]; exact heap_alloc_new w3 _
  have HB4 := Lib.hid (HB.out.trans ((hb3.trans (hb4.mono hb3.size)).mono HB.out.size))
  have HN4 := Lib.hid n4
  have HW4 := Lib.hid hw4
  clear hb3 hw4 hb4 n4 HG
  go_wp2_with (first | (rw [HW4.out]) | fail)
  refine (imget_nil w4).mono ?_
  rintro e w5 ⟨rfl, hb5⟩
  obtain ⟨w6, hw6⟩ : ∃ w6, w5.alloc (.cells #[.int .i64 0, .slice none 0 0, .slice none 0 0] 31) = w6 := ⟨_, rfl⟩
  have hb6 : Below w5.heap.size w5 w6 := by rw [← hw6]; exact (Below.refl _ _).alloc (Nat.le_refl _) _
  have hb46 := hb5.trans (hb6.mono hb5.size)
  have n6 := (hb46.block _ (heap_lt1 HN4.out)).trans HN4.out
  obtain ⟨c0, c1, c2⟩ := rk_cells n6
  have hl6 := heap_lt1 n6
  have HF := Lib.hid (HB4.out.trans (hb46.mono HB4.out.size))
  clear hb5 hb6 hb46 n6
  subst hw6
  go_wp2_with fail
  refine (code15_err _ 3 (by omega) (by omega)).mono ?_
  rintro e w7 ⟨rfl, rfl⟩
  go_wp2
  go_ret
  exact ⟨rfl, HF.out⟩
set_option maxRecDepth 100000 in
theorem im_ret1 {fn : Func} {R : Ending → World → Prop} {a : Act} {w : World} {p : Tmp} {g : Nat} {n : Int} {A1 A2 : Option Addr} {a1 b1 a2 b2 : Nat} (hres : fn.results = #[.cell p 38]) (hp : a.tmps.getD p undef = .pointer (some ⟨g, 0, none⟩)) (hd : a.defers = [])
    (hg : w.heap[g]? = some (.cells #[.int .i64 n, .slice A1 a1 b1, .slice A2 a2 b2] 38 (0, 0))) (hR : R (.returned (.agg #[.int .i64 n, .slice A1 a1 b1, .slice A2 a2 b2])) w) : bodyPost Tryz.prog fn R .ret a w := by
  refine bodyPost_ret (v := .agg #[.int .i64 n, .slice A1 a1 b1, .slice A2 a2 b2]) ?_ hd hR
  exact results_cell_row hres _ _ g _ _ _ _ hp hg rfl rfl rfl
set_option maxRecDepth 100000 in
set_option maxHeartbeats 1000000 in
theorem like_any (w : World) (n : Int) (A1 A2 : Option Addr) (a1 b1 a2 b2 : Nat) :
    Calls Tryz.prog 9 #[imV n A1 a1 b1 A2 a2 b2] w fun e w' => e = .returned (imV n A1 a1 b1 A2 a2 b2) ∧ Below w.heap.size w w' := by
  unfold imV
  obtain ⟨w1, hw1⟩ : ∃ w1, w.alloc (.cells #[.int .i64 n, .slice A1 a1 b1, .slice A2 a2 b2] 31) = w1 := ⟨_, rfl⟩
  have hb1 : Below w.heap.size w w1 := by rw [← hw1]; exact (Below.refl _ _).alloc (Nat.le_refl _) _
  have n1 : w1.heap[w.heap.size]? = some (.cells #[.int .i64 n, .slice A1 a1 b1, .slice A2 a2 b2] 31 (0, 0)) := by rw [← hw1]; exact heap_alloc_new w _
  obtain ⟨w2, hw2⟩ : ∃ w2, w1.alloc (.cells #[.int .i64 0, .slice none 0 0, .slice none 0 0] 38) = w2 := ⟨_, rfl⟩
  have hb2 : Below w1.heap.size w1 w2 := by rw [← hw2]; exact (Below.refl _ _).alloc (Nat.le_refl _) _
  have n2 : w2.heap[w1.heap.size]? = some (.cells #[.int .i64 0, .slice none 0 0, .slice none 0 0] 38 (0, 0)) := by rw [← hw2]; exact heap_alloc_new w1 _
  have m2 := (hb2.block _ (heap_lt1 n1)).trans n1
  obtain ⟨c0, c1, c2⟩ := rk_cells m2
  have hl := heap_lt1 m2
  obtain ⟨z0, z1, z2⟩ := rk_cells n2
  obtain ⟨f0, f1, f2⟩ := im_thaw n2
  have hl2 := heap_lt1 n2
  have HM := Lib.hid (im_set n2 (.int .i64 n) (.slice A1 a1 b1) (.slice A2 a2 b2))
  have hb02 := hb1.trans (hb2.mono hb1.size)
  have hbf : Below w.heap.size w (((w2.setCell ⟨w1.heap.size, 0, none⟩ (.int .i64 n)).setCell ⟨w1.heap.size, 1, none⟩ (.slice A1 a1 b1)).setCell ⟨w1.heap.size, 2, none⟩ (.slice A2 a2 b2)) := ((hb02.setCell hb1.size _).setCell hb1.size _).setCell hb1.size _
  have HF := Lib.hid hbf
  have HW1 := Lib.hid hw1
  have HW2 := Lib.hid hw2
  clear hw1 hw2 hb1 n1 hb2 n2 m2 hb02 hbf
  go_enter Tryz.func9, Tryz.ntmps9
  go_wp2_with (first | (rw [HW1.out]) | (rw [HW2.out]) | fail)
  (try simp only [Exit.inBlock, Exit.then])
  refine im_ret1 (g := w1.heap.size) Tryz.results9 ?_ ?_ HM.out ?_
  · rfl
  · rfl
  · exact ⟨rfl, HF.out⟩
end Go.Proofs.YtbemaoncakcnjaaGreat
