/- The document's Same, of images alike. -/
import Derived.Test.YtlhahibdddcpfaaImg15
namespace Go.Proofs.Ytlhahibdddcpfaa
open Go.RowKit

theorem str_self (s : ByteArray) : (s.toList != s.toList) = false := by simp
set_option maxRecDepth 100000 in
set_option maxHeartbeats 2000000 in
theorem rsame_eq (w : World) (n : Int) (A1 A2 C1 C2 : Option Addr) (k1 k2 e1 e2 : Nat) (l : List Rk) (d : List (List UInt8)) (hr : RkRd w w.heap.size A1 l) (hd : DtRd w w.heap.size A2 d) (hr2 : RkRd w w.heap.size C1 l) (hd2 : DtRd w w.heap.size C2 d) (hl : l.length ≤ 1000000) (hdl : d.length ≤ 1000000) :
    Calls Try.prog 16 #[imV n A1 l.length k1 A2 d.length k2, imV n C1 l.length e1 C2 d.length e2] w fun e w' => e = .returned (.bool true) ∧ Below w.heap.size w w' := by
  unfold imV
  obtain ⟨w1, hw1⟩ : ∃ w1, w.alloc (.cells #[.int .i64 n, .slice A1 l.length k1, .slice A2 d.length k2] 29) = w1 := ⟨_, rfl⟩
  obtain ⟨w2, hw2⟩ : ∃ w2, w1.alloc (.cells #[.int .i64 n, .slice C1 l.length e1, .slice C2 d.length e2] 29) = w2 := ⟨_, rfl⟩
  have hb1 : Below w.heap.size w w1 := by rw [← hw1]; exact (Below.refl _ _).alloc (Nat.le_refl _) _
  have hb2 : Below w1.heap.size w1 w2 := by rw [← hw2]; exact (Below.refl _ _).alloc (Nat.le_refl _) _
  have n1 : w1.heap[w.heap.size]? = some (.cells #[.int .i64 n, .slice A1 l.length k1, .slice A2 d.length k2] 29 (0, 0)) := by rw [← hw1]; exact heap_alloc_new w _
  have m2 : w2.heap[w1.heap.size]? = some (.cells #[.int .i64 n, .slice C1 l.length e1, .slice C2 d.length e2] 29 (0, 0)) := by rw [← hw2]; exact heap_alloc_new w1 _
  have n2 := (hb2.block _ (heap_lt1 n1)).trans n1
  have HR := Lib.hid hr
  have HD := Lib.hid hd
  have HR2 := Lib.hid hr2
  have HD2 := Lib.hid hd2
  have HW1 := Lib.hid hw1
  have HW2 := Lib.hid hw2
  have HB2 := Lib.hid (hb1.trans (hb2.mono hb1.size))
  have HN2 := Lib.hid n2
  have HM2 := Lib.hid m2
  obtain ⟨m, hm⟩ : ∃ m, l.length = m := ⟨_, rfl⟩
  obtain ⟨dm, hdm⟩ : ∃ dm, d.length = dm := ⟨_, rfl⟩
  rw [hm, hdm] at HW1 HW2 HN2 HM2
  rw [hm] at hl
  rw [hdm] at hdl
  rw [hm, hdm]
  have HLM := Lib.hid hm
  have HDM := Lib.hid hdm
  obtain ⟨a0, a1, a2⟩ := rk_cells HN2.out
  obtain ⟨b0, b1, b2⟩ := rk_cells HM2.out
  have la := heap_lt1 HN2.out
  have lb := heap_lt1 HM2.out
  clear hr hd hr2 hd2 hw1 hw2 hb1 hb2 n1 m2 n2 hm hdm
  go_enter Try.func16, Try.ntmps16
  go_wp2_with (first | (rw [HW1.out]) | (rw [HW2.out]) | fail)
  go_loopw [5] (fun t wr => ∃ (j : Nat), t = .int .i64 (j : Int) ∧ j ≤ m ∧ Below w2.heap.size w2 wr) (fun t _ => m - (intOf t).toNat)
  case atStart => exact ⟨0, rfl, Nat.zero_le _, Below.refl _ _⟩
  case round =>
    obtain ⟨j, rfl, hj, hb⟩ := hrel
    have a1' := (hb.cell (p := ⟨w.heap.size, 1, none⟩) la).trans a1
    have a2' := (hb.cell (p := ⟨w.heap.size, 2, none⟩) la).trans a2
    have b1' := (hb.cell (p := ⟨w1.heap.size, 1, none⟩) lb).trans b1
    have b2' := (hb.cell (p := ⟨w1.heap.size, 2, none⟩) lb).trans b2
    have lw := hb.size
    have lah : w.heap.size < wr.heap.size := by omega
    have lbh : w1.heap.size < wr.heap.size := by omega
    have HBW := Lib.hid hb
    clear hb
    by_cases hlt : j < m
    · obtain ⟨x, hx⟩ : ∃ x, l[j]? = some x := ⟨l[j]'(by rw [HLM.out]; exact hlt), List.getElem?_eq_getElem _⟩
      obtain ⟨g, o, rfl, hg, hcl⟩ := HR.out (by rw [HLM.out]; omega)
      obtain ⟨g', o', rfl, hg', hcl'⟩ := HR2.out (by rw [HLM.out]; omega)
      have hww := HB2.out.trans (HBW.out.mono HB2.out.size)
      obtain ⟨p0, p1, p2, _⟩ := hcl j x hx
      obtain ⟨p0', p1', p2', _⟩ := hcl' j x hx
      have r0 := (hww.cell (p := ⟨g, o + j * 3, none⟩) hg).trans p0
      have r1 := (hww.cell (p := ⟨g, o + j * 3 + 1, none⟩) hg).trans p1
      have r2 := (hww.cell (p := ⟨g, o + j * 3 + 2, none⟩) hg).trans p2
      have r0' := (hww.cell (p := ⟨g', o' + j * 3, none⟩) hg').trans p0'
      have r1' := (hww.cell (p := ⟨g', o' + j * 3 + 1, none⟩) hg').trans p1'
      have r2' := (hww.cell (p := ⟨g', o' + j * 3 + 2, none⟩) hg').trans p2'
      have lg : g < wr.heap.size := Nat.lt_of_lt_of_le hg hww.size
      have lg' : g' < wr.heap.size := Nat.lt_of_lt_of_le hg' hww.size
      obtain ⟨xo, xs, xu⟩ := x
      dsimp only at r0 r1 r2 r0' r1' r2'
      clear p0 p1 p2 p0' p1' p2' hcl hcl' hx hww
      go_wp2_with fail
      go_quiet (fail)
      go_wp2
      go_roundw
      case rel => exact ⟨j + 1, by go_num, by omega, HBW.out.trans ((below_dN _ _).mono HBW.out.size)⟩
      case measure => simp only [intOf]; omega
    · clear a1' b1'
      have hj2 : ¬ j < m := hlt
      have a1' := (HBW.out.cell (p := ⟨w.heap.size, 1, none⟩) la).trans a1
      have b1' := (HBW.out.cell (p := ⟨w1.heap.size, 1, none⟩) lb).trans b1
      go_wp2_with fail
      go_loopw [6] (fun t W => ∃ (i : Nat), t = .int .i64 (i : Int) ∧ i ≤ dm ∧ Below w2.heap.size w2 W) (fun t _ => dm - (intOf t).toNat)
      case atStart => exact ⟨0, rfl, Nat.zero_le _, HBW.out⟩
      case round =>
        obtain ⟨i, rfl, hi, hb⟩ := hrel
        clear a1' a2' b1' b2' lah lbh lw
        have a1' := (hb.cell (p := ⟨w.heap.size, 1, none⟩) la).trans a1
        have a2' := (hb.cell (p := ⟨w.heap.size, 2, none⟩) la).trans a2
        have b1' := (hb.cell (p := ⟨w1.heap.size, 1, none⟩) lb).trans b1
        have b2' := (hb.cell (p := ⟨w1.heap.size, 2, none⟩) lb).trans b2
        have lw := hb.size
        have lah : w.heap.size < wr.heap.size := by omega
        have lbh : w1.heap.size < wr.heap.size := by omega
        have HBX := Lib.hid hb
        clear hb
        by_cases hlt : i < dm
        · obtain ⟨x, hx⟩ : ∃ x, d[i]? = some x := ⟨d[i]'(by rw [HDM.out]; exact hlt), List.getElem?_eq_getElem _⟩
          obtain ⟨g, o, rfl, hg, hcl⟩ := HD.out (by rw [HDM.out]; omega)
          obtain ⟨g', o', rfl, hg', hcl'⟩ := HD2.out (by rw [HDM.out]; omega)
          have hww := HB2.out.trans (HBX.out.mono HB2.out.size)
          obtain ⟨P, kp, p0, pr, _⟩ := hcl i x hx
          obtain ⟨P', kp', p0', pr', _⟩ := hcl' i x hx
          have r0 := (hww.cell (p := ⟨g, o + i, none⟩) hg).trans p0
          have r0' := (hww.cell (p := ⟨g', o' + i, none⟩) hg').trans p0'
          have HP := Lib.hid (pr.below hww)
          have HP' := Lib.hid (pr'.below hww)
          have lg : g < wr.heap.size := Nat.lt_of_lt_of_le hg hww.size
          have lg' : g' < wr.heap.size := Nat.lt_of_lt_of_le hg' hww.size
          obtain ⟨xn, hxn⟩ : ∃ xn, x.length = xn := ⟨_, rfl⟩
          obtain ⟨S, hS⟩ : ∃ S, strB x = S := ⟨_, rfl⟩
          rw [hxn] at r0 r0' HP HP'
          have q0 : ∀ k : Nat, (convert 31 9 (.slice P xn kp)).run Try.prog (wr.drewN k) = .ok (.string S) (wr.drewN k) := fun k => by rw [← hS]; exact conv_rd (HP.out.below (below_dN _ _ |>.mono hww.size))
          have q0' : ∀ k : Nat, (convert 31 9 (.slice P' xn kp')).run Try.prog (wr.drewN k) = .ok (.string S) (wr.drewN k) := fun k => by rw [← hS]; exact conv_rd (HP'.out.below (below_dN _ _ |>.mono hww.size))
          clear p0 pr p0' pr' hcl hcl' hx hww hxn hS
          go_wp2_with fail
          go_quiet (fail)
          go_wp2
          go_roundw
          case rel => exact ⟨i + 1, by go_num, by omega, HBX.out.trans ((below_dN _ _).mono HBX.out.size)⟩
          case measure => simp only [intOf]; omega
        · go_wp2
          go_ret
          exact ⟨rfl, HB2.out.trans (HBX.out.mono HB2.out.size)⟩
end Go.Proofs.Ytlhahibdddcpfaa
