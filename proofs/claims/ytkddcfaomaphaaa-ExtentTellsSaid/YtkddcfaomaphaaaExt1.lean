/- Sectors that n bytes have, and the sectors of bytes; the contracts of extent's helpers. -/
import Derived.Test.YtkddcfaomaphaaaDisk5
namespace Go.Proofs.Ytkddcfaomaphaaa
open Go.RowKit

/-- So many sectors n bytes have. -/
def need (n : Nat) : Nat := (n + 511) / 512
/-- The i-th sector of bytes, 0 behind them. -/
def padd (b : List UInt8) (i : Nat) : List UInt8 := (b.drop (i * 512)).take 512 ++ List.replicate (512 - (b.length - i * 512)) 0
theorem padd_length (b : List UInt8) (i : Nat) : (padd b i).length = 512 := by
  simp [padd]; omega

/-- A block that is just these bytes, some of which are laid over. -/
theorem Fill.over {B : Nat} {w0 w : World} {g : Nat} {t : TypeId} {bs : List UInt8} (h : Fill w g t bs) (hb : Below B w0 w) (hB : B ≤ g) (off : Nat) (cs : List UInt8) :
    Fill (w.setRow g (((rowB bs).toList.take off ++ (cs.map bv ++ (rowB bs).toList.drop (off + (cs.map bv).length))).toArray)) g t (lay bs off cs) ∧ Below B w0 (w.setRow g (((rowB bs).toList.take off ++ (cs.map bv ++ (rowB bs).toList.drop (off + (cs.map bv).length))).toArray)) := by
  refine ⟨?_, below_setRow hb hB _⟩
  unfold Fill at h ⊢
  rw [setRow_heap w g _ _ t _ h]
  simp [rowB, lay]

section
variable {S : Nat → Prop} {w : World} {g h c : Nat} {W : Option Addr} {cw : Nat} {bs : List UInt8} {ws : List Wr} {left : Int} {off : Bool}
set_option maxRecDepth 100000 in
set_option maxHeartbeats 400000 in
theorem esectors_any (w : World) (n : Nat) (hn : n ≤ 9223372036854775807) (m : Nat) (hm : need n = m) :
    Calls Try.prog 24 #[.int .i64 (n : Int)] w fun e w' => e = .returned (.int .i64 (m : Int)) ∧ w = w' := by
  unfold need at hm
  by_cases h : n % 512 = 0
  · have s1 : decide ((0 : Int) < (n : Int) % 512) = false := decide_eq_false (by omega)
    have HM : Hid ((n : Int) / 512 = (m : Int)) := (show _ = _ by omega)
    clear hm
    go_enter Try.func24, Try.ntmps24
    go_wp2
    go_ret
    exact ⟨ret_i HM.out, rfl⟩
  · have s1 : decide ((0 : Int) < (n : Int) % 512) = true := decide_eq_true (by omega)
    have HM : Hid ((n : Int) / 512 + 1 = (m : Int)) := (show _ = _ by omega)
    clear hm
    go_enter Try.func24, Try.ntmps24
    go_wp2
    go_ret
    exact ⟨ret_i HM.out, rfl⟩

set_option maxRecDepth 100000 in
set_option maxHeartbeats 400000 in
theorem efits_yes (k : Dk S w g h c W cw bs ws left off) (N : Nat) (hN : bs.length = 512 * N) (hN2 : N ≤ 128) (p n : Nat) (hfit : p + need n ≤ N) :
    Calls Try.prog 23 #[.pointer (some ⟨g, 0, none⟩), .int .i64 (p : Int), .int .i64 (n : Int)] w fun e w' => e = .returned (.bool true) ∧ w = w' := by
  have HS := dsectors_any k (by omega)
  rw [show bs.length / 512 = N by omega] at HS
  have HS := Lib.hid HS
  obtain ⟨m, hm⟩ : ∃ m, need n = m := ⟨_, rfl⟩
  have HE := Lib.hid (esectors_any w n (by unfold need at hfit; omega) m hm)
  rw [hm] at hfit
  have h1 : (p : Int) ≤ (N : Int) := by omega
  have h2 : (m : Int) ≤ (N : Int) - (p : Int) := by omega
  clear hm k hN
  go_enter Try.func23, Try.ntmps23
  go_wp2_with fail
  with_reducible refine HS.out.mono ?_
  rintro e w1 ⟨rfl, rfl⟩
  go_wp2_with fail
  with_reducible refine HE.out.mono ?_
  rintro e w1 ⟨rfl, rfl⟩
  go_wp2_with fail
  with_reducible refine HS.out.mono ?_
  rintro e w1 ⟨rfl, rfl⟩
  go_wp2
  go_ret
  exact ⟨rfl, rfl⟩

set_option maxRecDepth 100000 in
set_option maxHeartbeats 400000 in
theorem efits_no (k : Dk S w g h c W cw bs ws left off) (N : Nat) (hN : bs.length = 512 * N) (hN2 : N ≤ 128) (p : Int) (n : Nat) (hn : n ≤ 9223372036854775807) (hfit : p < 0 ∨ (N : Int) < p + need n) :
    Calls Try.prog 23 #[.pointer (some ⟨g, 0, none⟩), .int .i64 p, .int .i64 (n : Int)] w fun e w' => e = .returned (.bool false) ∧ w = w' := by
  have HS := dsectors_any k (by omega)
  rw [show bs.length / 512 = N by omega] at HS
  have HS := Lib.hid HS
  obtain ⟨m, hm⟩ : ∃ m, need n = m := ⟨_, rfl⟩
  have HE := Lib.hid (esectors_any w n hn m hm)
  have hm2 : m ≤ 18014398509481985 := by unfold need at hm; omega
  rw [hm] at hfit
  clear hm k hN
  by_cases h0 : p < 0
  · clear hfit
    go_enter Try.func23, Try.ntmps23
    go_wp2
    go_ret
    exact ⟨rfl, rfl⟩
  · by_cases h1 : (N : Int) < p
    · clear hfit
      go_enter Try.func23, Try.ntmps23
      go_wp2_with fail
      with_reducible refine HS.out.mono ?_
      rintro e w1 ⟨rfl, rfl⟩
      go_wp2
      go_ret
      exact ⟨rfl, rfl⟩
    · have h2 : (N : Int) - p < (m : Int) := by omega
      clear hfit
      go_enter Try.func23, Try.ntmps23
      go_wp2_with fail
      with_reducible refine HS.out.mono ?_
      rintro e w1 ⟨rfl, rfl⟩
      go_wp2_with fail
      with_reducible refine HE.out.mono ?_
      rintro e w1 ⟨rfl, rfl⟩
      go_wp2_with fail
      with_reducible refine HS.out.mono ?_
      rintro e w1 ⟨rfl, rfl⟩
      go_wp2
      go_ret
      exact ⟨ret_b (decide_eq_false (by omega)), rfl⟩
end

set_option maxRecDepth 100000 in
set_option maxHeartbeats 400000 in
theorem epadded_any (w : World) (A : Addr) (cA : Nat) (b : List UInt8) (hr : Rd w w.heap.size (some A) b.length b) (_hb : b.length ≤ 1000000) (hpos : 0 < b.length) :
    Calls Try.prog 26 #[.slice (some A) b.length cA] w fun e w' => e = .returned (.slice (some ⟨w.heap.size, 0, none⟩) 512 512) ∧ Fill w' w.heap.size 5 (padd b 0) ∧ Below w.heap.size w w' := by
  obtain ⟨z, hz⟩ : ∃ z, List.replicate 512 (0 : UInt8) = z := ⟨_, rfl⟩
  have hzl : z.length = 512 := by rw [← hz]; simp
  have hmk : ∀ W : World, (Instr.makeSlice 22 (.int .i64 512) (.int .i64 512)).run Try.prog W = .ok (.slice (some ⟨W.heap.size, 0, none⟩) 512 512) (W.alloc (.cells (rowB z) 5)) := fun W => by
    have := run_make_row' (P := Try.prog) 22 5 (.int .u8 0) 1 Try.underlying22 u8_info rfl .i64 .i64 512 (by omega) (by omega) W
    rw [rowB_zeros, hz] at this
    exact this
  obtain ⟨w0, hw0⟩ : ∃ w0, w.alloc (.cells (rowB z) 5) = w0 := ⟨_, rfl⟩
  have hf : Fill w0 w.heap.size 5 z := by rw [← hw0]; exact Fill.made w 5 _
  have hbl : Below w.heap.size w w0 := by rw [← hw0]; exact (Below.refl _ _).alloc (Nat.le_refl _) _
  have rs := hr.below hbl
  have hn : ((b.take 512).map bv).length = Nat.min b.length 512 := by rw [List.length_map, List.length_take]; exact Nat.min_comm _ _
  have hsrc : ∀ j v, ((b.take 512).map bv)[j]? = some v → w0.cell? (A.add j) = some v := fun j v hj => rd_cells rs j v (by
    rw [List.map_take] at hj
    rcases Nat.lt_or_ge j 512 with h | h
    · rwa [List.getElem?_take_of_lt h] at hj
    · rw [List.getElem?_eq_none (by simp; omega)] at hj; cases hj)
  have hov := hf.over hbl (Nat.le_refl _) 0 (b.take 512)
  have e1 : lay z 0 (b.take 512) = padd b 0 := by
    rw [← hz]
    simp only [lay, padd, List.take_zero, List.nil_append, Nat.zero_mul, List.drop_zero, Nat.zero_add, List.drop_replicate, List.length_take, Nat.sub_zero]
    congr 2
    omega
  rw [e1] at hov
  have HOV := Lib.hid hov
  have HSRC := Lib.hid hsrc
  have HN := Lib.hid hn
  have HF := Lib.hid hf
  have HFIT : Hid (0 + ((b.take 512).map bv).length ≤ (rowB z).size) := (show _ ≤ _ by rw [rowB_size, hzl, List.length_map, List.length_take]; omega)
  have HW0 := Lib.hid hw0
  clear hov hsrc hn hf hbl rs hr e1 hz hzl hw0
  go_enter Try.func26, Try.ntmps26
  go_wp2_with (rw [HW0.out]; (refine wpList_copy_own rfl (.tmp 5) (.tmp 6) 22 22 rfl 5 Try.underlying22 (by kernel_rfl) w.heap.size 0 512 512 A b.length cA rfl rfl _ 5 HF.out ((b.take 512).map bv) HN.out HSRC.out HFIT.out (bv_one _) ?_); generalize w0.setRow _ _ = w2 at HOV ⊢)
  go_ret
  exact ⟨rfl, HOV.out.1, HOV.out.2⟩
end Go.Proofs.Ytkddcfaomaphaaa
