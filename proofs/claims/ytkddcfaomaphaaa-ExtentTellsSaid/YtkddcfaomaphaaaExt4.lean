/- What is read behind a write: plain facts. The example of layer 5. -/
import Derived.Test.YtkddcfaomaphaaaExt3
import Derived.Test.YtkddcfaomaphaaaTwo
import Derived.Test.YtkddcfaomaphaaaUp4
namespace Go.Proofs.Ytkddcfaomaphaaa
open Go.RowKit

/-- The first j sectors of bytes, 0 behind them. -/
def padAll (b : List UInt8) (j : Nat) : List UInt8 := ((List.range j).map fun i => padd b i).flatten
theorem padAll_succ (b : List UInt8) (j : Nat) : padAll b (j + 1) = padAll b j ++ padd b j := by simp [padAll, List.range_succ]
set_option maxRecDepth 100000 in
theorem padAll_eq (b : List UInt8) (j : Nat) : padAll b j = b.take (512 * j) ++ List.replicate (512 * j - b.length) 0 := by
  induction j with
  | zero => simp [padAll]
  | succ j ih =>
    rw [padAll_succ, ih]
    unfold padd
    have e : 512 * (j + 1) = 512 * j + 512 := by omega
    rw [e, Nat.mul_comm j 512]
    by_cases h : 512 * j ≤ b.length
    · rw [show 512 * j - b.length = 0 by omega, List.replicate_zero, List.append_nil, ← List.append_assoc, List.take_add]
      congr 2
      omega
    · rw [List.drop_eq_nil_of_le (by omega), List.take_nil, List.nil_append, List.take_of_length_le (by omega), List.take_of_length_le (by omega), List.append_assoc, List.replicate_append_replicate]
      congr 2
      omega
set_option maxRecDepth 100000 in
theorem padAll_take (b : List UInt8) (K : Nat) (hK : need b.length = K) : (padAll b K).take b.length = b := by
  unfold need at hK
  rw [padAll_eq, show b.take (512 * K) = b from List.take_of_length_le (by omega), List.take_left]

/-- What was written last, told of what stands once it stands. -/
theorem lastD_stand (l : List (Nat × List UInt8)) (bs : List UInt8) (i : Nat) (hf : Fits bs.length l) : lastD (stand bs l) [] i = lastD bs l i := by
  have sec_last : ∀ z : List UInt8, lastD z [] i = sec z i := fun z => by
    rw [lastD_none z [] i (by simp)]
    unfold sec
    rw [Nat.mul_comm]
  rw [sec_last]
  obtain ⟨r, hr⟩ : ∃ r, l.reverse = r := ⟨_, rfl⟩
  have hl : l = r.reverse := by rw [← hr, List.reverse_reverse]
  subst hl
  clear hr
  induction r with
  | nil => exact (sec_last bs).symm
  | cons x r ih =>
    rw [List.reverse_cons] at hf ⊢
    have hf' : Fits bs.length r.reverse := fun y hy => hf y (List.mem_append_left _ hy)
    have hx := hf x (by simp)
    have hlen := stand_length r.reverse bs hf'
    rw [stand_snoc, lastD_snoc]
    by_cases h : x.1 = i
    · rw [if_pos h, ← h]
      exact sec_same _ x (by rw [hlen]; exact hx.1) hx.2
    · rw [if_neg h, sec_other _ x i (by rw [hlen]; exact hx.1) hx.2 h]
      exact ih hf'
set_option maxRecDepth 100000 in
theorem lastD_puts (z : List UInt8) (p : Nat) (b : List UInt8) (j i : Nat) : lastD z (puts p b j) i = if p ≤ i ∧ i < p + j then padd b (i - p) else lastD z [] i := by
  induction j with
  | zero => rw [if_neg (by omega)]; rfl
  | succ j ih =>
    rw [puts_succ, lastD_snoc, ih]
    by_cases h : p + j = i
    · rw [if_pos h, if_pos (by omega), show i - p = j by omega]
    · rw [if_neg h]
      by_cases h2 : p ≤ i ∧ i < p + j
      · rw [if_pos h2, if_pos (by omega)]
      · rw [if_neg h2, if_neg (by omega)]
theorem rdAll_congr {bs bs' : List UInt8} {l l' : List (Nat × List UInt8)} (p j : Nat) (h : ∀ i, i < j → lastD bs l (p + i) = lastD bs' l' (p + i)) : rdAll bs l p j = rdAll bs' l' p j := by
  induction j with
  | zero => rfl
  | succ j ih => rw [rdAll_succ, rdAll_succ, ih (fun i hi => h i (by omega)), h j (by omega)]
theorem rdAll_stand (bs : List UInt8) (l : List (Nat × List UInt8)) (p j : Nat) (hf : Fits bs.length l) : rdAll (stand bs l) [] p j = rdAll bs l p j :=
  rdAll_congr p j fun _ _ => lastD_stand l bs _ hf
theorem rdAll_puts (z : List UInt8) (p : Nat) (b : List UInt8) (K : Nat) : rdAll z (puts p b K) p K = padAll b K := by
  have : ∀ j, j ≤ K → rdAll z (puts p b K) p j = padAll b j := fun j => by
    induction j with
    | zero => intro _; rfl
    | succ j ih =>
      intro hj
      rw [rdAll_succ, padAll_succ, ih (by omega), lastD_puts, if_pos (by omega)]
      congr 2
      omega
  exact this K (Nat.le_refl _)
set_option maxRecDepth 100000 in
theorem rdAll_zeros (N p : Nat) (b : List UInt8) (K q j : Nat) (hq : q + j ≤ N) (hd : q + j ≤ p ∨ p + K ≤ q) : rdAll (List.replicate (N * 512) 0) (puts p b K) q j = List.replicate (512 * j) 0 := by
  induction j with
  | zero => simp [rdAll]
  | succ j ih =>
    rw [rdAll_succ, ih (by omega) (by omega), lastD_puts, if_neg (by omega), lastD_none _ _ _ (by simp), List.drop_replicate, List.take_replicate, List.replicate_append_replicate]
    congr 1
    omega

/-- make([]byte, n): a block of n bytes that are 0. -/
theorem run_zeros (n : Nat) (hn : n ≤ 1000000) (z : List UInt8) (hz : List.replicate n (0 : UInt8) = z) (W : World) : (Instr.makeSlice 22 (.int .i64 (n : Int)) (.int .i64 (n : Int))).run Try.prog W = .ok (.slice (some ⟨W.heap.size, 0, none⟩) n n) (W.alloc (.cells (rowB z) 5)) := by
  have := run_make_row' (P := Try.prog) 22 5 (.int .u8 0) 1 Try.underlying22 u8_info rfl .i64 .i64 n (by omega) (by omega) W
  rw [rowB_zeros, hz] at this
  exact this
theorem mslice_run {P : Program} {o : Oper} {a : Act} {w w1 : World} {v L C : Value} {t : TypeId} {l c : Operand} (ho : o.op = .makeSlice t l c) (hl : a.eval l = L) (hc : a.eval c = C)
    (hr : (Instr.makeSlice t L C).run P w = .ok v w1) : (execOp a.eval o).run P w = .ok (.value v) w1 := by
  unfold execOp
  simp only [ho]
  rw [hl, hc, Sem.run_bind, hr]
  rfl

set_option maxRecDepth 100000 in
set_option maxHeartbeats 1000000 in
theorem up5_any (w : World) : Calls Try.prog 5 #[] w fun e w' => e = .returned (.bool true) ∧ Below w.heap.size w w' := by
  have HN := Lib.hid (dnew_yes w 3 (by omega) (by omega))
  obtain ⟨z, hz⟩ : ∃ z, List.replicate 513 (0 : UInt8) = z := ⟨_, rfl⟩
  have hzl : z.length = 513 := by rw [← hz]; simp
  have hmk := run_zeros 513 (by omega) z hz
  have hmk : ∀ W : World, (Instr.makeSlice 22 (.int .i64 513) (.int .i64 513)).run Try.prog W = .ok (.slice (some ⟨W.heap.size, 0, none⟩) 513 513) (W.alloc (.cells (rowB z) 5)) := hmk
  go_enter Try.func5, Try.ntmps5
  go_wp2_with fail
  refine HN.out.mono ?_
  rintro e w1 ⟨rfl, k1, hb1⟩
  obtain ⟨g, hg⟩ : ∃ g, w.heap.size + 1 = g := ⟨_, rfl⟩
  rw [hg] at k1 ⊢
  obtain ⟨y, hy⟩ : ∃ y, List.replicate (3 * 512) (0 : UInt8) = y := ⟨_, rfl⟩
  have hyl : y.length = 512 * 3 := by rw [← hy]; simp
  rw [hy] at k1
  obtain ⟨w2, hw2⟩ : ∃ w2, w1.alloc (.cells (rowB z) 5) = w2 := ⟨_, rfl⟩
  have hb2 : Below w1.heap.size w1 w2 := by rw [← hw2]; exact (Below.refl _ _).alloc (Nat.le_refl _) _
  have hf2 : Fill w2 w1.heap.size 5 z := by rw [← hw2]; exact Fill.made w1 _ _
  have r2 := hf2.reads
  have k2 := k1.below hb2
  have HW := ewrite_fit k2 3 hyl (by omega) (by simp) (by omega) 1 (some ⟨w1.heap.size, 0, none⟩) 513 z r2 (by omega) (by omega) (fun _ a e h => by
    injection e with e
    subst e
    rcases h with h | h
    · cases h
    · have := h.2; dsimp only at this; omega) 2 (by rw [hzl]; rfl) (by omega) 2 (by simp [wk])
  rw [hzl] at HW
  have HW := Lib.hid HW
  have HW2 := Lib.hid hw2
  have HB2 := Lib.hid (hb1.trans (hb2.mono hb1.size))
  have HYL := Lib.hid hyl
  have HB1 := Lib.hid hb1.size
  clear HN hg k1 k2 hb1 hb2 hy hyl hzl r2 hf2 hw2
  go_wp2_with fail
  rw [HW2.out]
  refine HW.out.mono ?_
  rintro e w3 ⟨he, ⟨W', cw', vs, k3, hvs⟩, t3⟩
  rw [if_neg (by omega)] at he
  subst he
  have hvl : vs.length = 2 := by have := congrArg List.length hvs; simpa [puts] using this
  have b3 : Below w.heap.size w w3 := HB2.out.trans (t3.below (fun j hj => by
    rcases hj with h | h
    · cases h
    · exact h.1) HB2.out.size)
  obtain ⟨w4, hw4⟩ : ∃ w4, w3.alloc (.cells (rowB z) 5) = w4 := ⟨_, rfl⟩
  have b4 : Below w3.heap.size w3 w4 := by rw [← hw4]; exact (Below.refl _ _).alloc (Nat.le_refl _) _
  have k4 := k3.below b4
  have HA := Lib.hid (ewrite_arg k4 3 HYL.out (by omega) 2 (some ⟨w3.heap.size, 0, none⟩) 513 513 (by omega) (by right; simp [need]))
  have hwt := dwaiting_any k4
  rw [hvl] at hwt
  have HWT := Lib.hid hwt
  have HW4 := Lib.hid hw4
  have HB4 := Lib.hid (b3.trans (b4.mono b3.size))
  clear k3 t3 hvs hvl b3 hw4 b4 k4 hwt HW
  go_wp2_with fail
  rw [HW4.out]
  with_reducible refine HA.out.mono ?_
  rintro e w5 ⟨rfl, rfl⟩
  clear hmk
  go_wp2_with fail
  with_reducible refine HWT.out.mono ?_
  rintro e w6 ⟨rfl, rfl⟩
  go_wp2_with fail
  refine (code_err w4 1 (by omega) (by omega)).mono ?_
  rintro e w6 ⟨rfl, rfl⟩
  go_wp2
  go_ret
  exact ⟨rfl, HB4.out⟩
end Go.Proofs.Ytkddcfaomaphaaa
