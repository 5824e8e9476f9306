/- The contract of extent.Read. -/
import Derived.Test.YtkddcfaomaphaaaExt2
namespace Go.Proofs.Ytkddcfaomaphaaa
open Go.RowKit

/-- What the first j sectors from p on read as. -/
def rdAll (bs : List UInt8) (l : List (Nat × List UInt8)) (p j : Nat) : List UInt8 := ((List.range j).map fun i => lastD bs l (p + i)).flatten
theorem rdAll_succ (bs : List UInt8) (l : List (Nat × List UInt8)) (p j : Nat) : rdAll bs l p (j + 1) = rdAll bs l p j ++ lastD bs l (p + j) := by simp [rdAll, List.range_succ]
theorem lastD_length (bs : List UInt8) (l : List (Nat × List UInt8)) (i : Nat) (hf : Fits bs.length l) (hi : i * 512 + 512 ≤ bs.length) : (lastD bs l i).length = 512 := by
  unfold lastD
  split
  · rename_i x h
    exact (hf x (List.mem_reverse.1 (List.mem_of_find?_eq_some h))).2
  · rw [List.length_take, List.length_drop]
    omega
set_option maxRecDepth 100000 in
theorem rdAll_length (bs : List UInt8) (l : List (Nat × List UInt8)) (p : Nat) (hf : Fits bs.length l) (j : Nat) (h : (p + j) * 512 ≤ bs.length) : (rdAll bs l p j).length = 512 * j := by
  induction j with
  | zero => simp [rdAll]
  | succ j ih =>
    have h1 := ih (by omega)
    have h2 := lastD_length bs l (p + j) hf (by omega)
    rw [rdAll_succ, List.length_append, h1, h2]
    omega
set_option maxRecDepth 100000 in
theorem lay_part (J x : List UInt8) (m : Nat) (hx : x.length = 512) : lay (J ++ List.replicate m 0) J.length (x.take m) = J ++ (x ++ List.replicate (m - 512) 0).take m := by
  unfold lay
  rw [List.take_left]
  congr 1
  have e : m - min m x.length = min (m - x.length) (m - 512) := by omega
  rw [List.drop_append, List.drop_of_length_le (by omega), List.nil_append, Nat.add_sub_cancel_left, List.length_take, List.drop_replicate, List.take_append, List.take_replicate, e]
/-- What is read, part by part. -/
def rdPart (bs : List UInt8) (l : List (Nat × List UInt8)) (p n j : Nat) : List UInt8 := (rdAll bs l p j ++ List.replicate (n - 512 * j) 0).take n
set_option maxRecDepth 100000 in
theorem rdPart_step (bs : List UInt8) (l : List (Nat × List UInt8)) (p n j : Nat) (hf : Fits bs.length l) (hj : 512 * j < n) (hi : (p + j) * 512 + 512 ≤ bs.length) :
    lay (rdPart bs l p n j) (j * 512) ((lastD bs l (p + j)).take (n - j * 512)) = rdPart bs l p n (j + 1) := by
  have hl := rdAll_length bs l p hf j (by omega)
  have hx := lastD_length bs l (p + j) hf hi
  have e : j * 512 = (rdAll bs l p j).length := by omega
  unfold rdPart
  rw [List.take_of_length_le (by simp; omega), rdAll_succ, List.append_assoc, List.take_append, List.take_of_length_le (by omega : (rdAll bs l p j).length ≤ n), hl, show n - j * 512 = n - 512 * j by omega, e, lay_part _ _ _ hx]
  congr 4
set_option maxRecDepth 100000 in
theorem rdPart_length (bs : List UInt8) (l : List (Nat × List UInt8)) (p n j : Nat) (hf : Fits bs.length l) (hi : (p + j) * 512 ≤ bs.length) : (rdPart bs l p n j).length = n := by
  have hl := rdAll_length bs l p hf j hi
  simp [rdPart, hl]; omega
/-- A block that is just these bytes, as a row of the call's own. -/
theorem Fill.own {w : World} {g : Nat} {bs : List UInt8} {base : Nat} (h : Fill w g 5 bs) (hB : base ≤ g) (hm : bs.length ≤ 1000000) : w.ownsRow base 5 1 (.slice (some ⟨g, 0, none⟩) bs.length bs.length) bs.length (bs.map bv) := by
  refine ⟨by simp, .inr ⟨g, bs.length, rowB bs, rfl, hB, h, Nat.le_refl _, by unfold maxLen; omega, by rw [rowB_size]; simp, ?_⟩⟩
  rw [Nat.mul_one]
  simp only [rowB]
  rw [List.take_of_length_le (by simp)]

section
variable {S : Nat → Prop} {w : World} {g h c : Nat} {W : Option Addr} {cw : Nat} {bs : List UInt8} {ws : List Wr} {left : Int} {off : Bool}
theorem told_is {A : Option Addr} {a b c : Nat} (h : a = b) : Ending.returned (.tuple #[.slice A a c, .nilIface]) = .returned (.tuple #[.slice A b c, .nilIface]) := by rw [h]

set_option maxRecDepth 100000 in
set_option maxHeartbeats 1000000 in
theorem eread_fit (k : Dk S w g h c W cw bs ws left off) (N : Nat) (hN : bs.length = 512 * N) (hN2 : N ≤ 128) (p n K : Nat) (hK : need n = K) (hfit : p + K ≤ N) (ho : off = true → n = 0) (out : List UInt8) (hout : (rdAll bs (ws.map Wr.two) p K).take n = out) :
    Calls Try.prog 13 #[.pointer (some ⟨g, 0, none⟩), .int .i64 (p : Int), .int .i64 (n : Int)] w fun e w' => Told out w e w' := by
  have hbl : n ≤ 65536 := by unfold need at hK; omega
  have HF := Lib.hid (efits_yes k N hN hN2 p n (by rw [hK]; exact hfit))
  have HE := Lib.hid (fun w => esectors_any w n (by omega) K hK)
  have hfs := k.fits
  obtain ⟨z, hz⟩ : ∃ z, List.replicate n (0 : UInt8) = z := ⟨_, rfl⟩
  have hmk : ∀ W : World, (Instr.makeSlice 22 (.int .i64 (n : Int)) (.int .i64 (n : Int))).run Try.prog W = .ok (.slice (some ⟨W.heap.size, 0, none⟩) n n) (W.alloc (.cells (rowB z) 5)) := fun W => by
    have := run_make_row' (P := Try.prog) 22 5 (.int .u8 0) 1 Try.underlying22 u8_info rfl .i64 .i64 n (by omega) (by omega) W
    rw [rowB_zeros, hz] at this
    exact this
  obtain ⟨w0, hw0⟩ : ∃ w0, w.alloc (.cells (rowB z) 5) = w0 := ⟨_, rfl⟩
  have hf : Fill w0 w.heap.size 5 z := by rw [← hw0]; exact Fill.made w 5 _
  have hbl0 : Below w.heap.size w w0 := by rw [← hw0]; exact (Below.refl _ _).alloc (Nat.le_refl _) _
  have e0 : z = rdPart bs (ws.map Wr.two) p n 0 := by simp [rdPart, rdAll, ← hz]
  have hend : rdPart bs (ws.map Wr.two) p n K = out := by
    have : n - 512 * K = 0 := by unfold need at hK; omega
    rw [← hout]
    simp [rdPart, this]
  have hlen := fun j hj => rdPart_length bs (ws.map Wr.two) p n j hfs hj
  rw [e0] at hf
  have HF0 := Lib.hid hf
  have HB0 := Lib.hid hbl0
  have HW0 := Lib.hid hw0
  have HKK := Lib.hid k
  have HNN := Lib.hid hN
  have HK := Lib.hid hK
  have HFS := Lib.hid hfs
  have HEND := Lib.hid hend
  have HLEN := Lib.hid hlen
  obtain ⟨gb, hgb⟩ : ∃ gb, w.heap.size = gb := ⟨_, rfl⟩
  have HGB := Lib.hid hgb
  clear hz hw0 hf hbl0 e0 k hN hK hout hfs hend hlen
  go_enter Try.func13, Try.ntmps13
  go_wp2_with fail
  with_reducible refine HF.out.mono ?_
  rintro e w1 ⟨rfl, rfl⟩
  clear HF
  go_wp2_with fail
  rw [HW0.out]
  with_reducible refine (HE.out w0).mono ?_
  rintro e w1 ⟨rfl, rfl⟩
  clear HE hmk HW0
  clear hgb
  go_wp2
  go_loopw [26] (fun i wr => ∃ j : Nat, j ≤ K ∧ i = .int .i64 j ∧ Fill wr gb 5 (rdPart bs (ws.map Wr.two) p n j) ∧ Below gb w wr) (fun i _ => K - (intOf i).toNat)
  case atStart => exact ⟨0, Nat.zero_le _, rfl, by rw [← HGB.out]; exact HF0.out, by rw [← HGB.out]; exact HB0.out⟩
  case round =>
    obtain ⟨j, hj, rfl, hf, hb⟩ := hrel
    by_cases hlt : j < K
    · have hjn : 512 * j < n := by have := HK.out; unfold need at this; omega
      have hNb := HNN.out
      have hof : off = false := by
        cases off
        · rfl
        · have := ho rfl; omega
      subst hof
      obtain ⟨P, hP⟩ : ∃ P, rdPart bs (ws.map Wr.two) p n j = P := ⟨_, rfl⟩
      have hPl : P.length = n := by rw [← hP]; exact HLEN.out j (by omega)
      have hst := rdPart_step bs (ws.map Wr.two) p n j HFS.out hjn (by omega)
      have hxl := lastD_length bs (ws.map Wr.two) (p + j) HFS.out (by omega)
      have hrd := dread_ok (HKK.out.below (HGB.out ▸ hb)) (by omega) (p + j) (by omega)
      obtain ⟨x, hx⟩ : ∃ x, lastD bs (ws.map Wr.two) (p + j) = x := ⟨_, rfl⟩
      rw [hP, hx] at hst
      rw [hP] at hf
      rw [hx] at hxl hrd
      rw [Int.natCast_add] at hrd
      have HRD := Lib.hid hrd
      have HST := Lib.hid hst
      have HFI := Lib.hid hf
      have HB := Lib.hid hb
      have hne : ¬ n = j * 512 := by omega
      have HXL := Lib.hid hxl
      have HPL := Lib.hid hPl
      clear hrd hst hf hb hx hP hNb hxl hPl
      go_wp2_with fail
      with_reducible refine HRD.out.mono ?_
      rintro e w2 ⟨A', c', rfl, hown, hb2⟩
      rw [HXL.out] at hown ⊢
      obtain ⟨hr2, _⟩ := (⟨(own_any hown), trivial⟩ : _ ∧ True)
      obtain ⟨A2, c2, e2, _, hr2⟩ := hr2
      injection e2 with e2 _ e3
      subst e2 e3
      obtain ⟨b2, o2, rfl, _, _⟩ := hr2.2 (by omega)
      have hlt2 := HFI.out.lt
      have hf2 := HFI.out.below hb2 hlt2
      have hov := hf2.over ((HB.out.trans (hb2.mono (by omega)))) (Nat.le_refl _) (j * 512) (x.take (n - j * 512))
      rw [HST.out] at hov
      have HOV := Lib.hid hov
      have HN2 : Hid (((x.take (n - j * 512)).map bv).length = Nat.min 512 (n - j * 512)) := (show _ = _ by rw [List.length_map, List.length_take, HXL.out]; exact Nat.min_comm _ _)
      have HSRC : Hid (∀ i v, ((x.take (n - j * 512)).map bv)[i]? = some v → w2.cell? ((⟨b2, o2, none⟩ : Addr).add i) = some v) := fun i v hi => rd_cells hr2 i v (by
        rw [List.map_take] at hi
        rcases Nat.lt_or_ge i (n - j * 512) with h | h
        · rwa [List.getElem?_take_of_lt h] at hi
        · rw [List.getElem?_eq_none (by simp; omega)] at hi; cases hi)
      have HFIT : Hid (j * 512 + ((x.take (n - j * 512)).map bv).length ≤ (rowB P).size) := (show _ ≤ _ by rw [HN2.out, rowB_size, HPL.out]; have := Nat.min_le_right 512 (n - j * 512); simp only [Nat.min_def] at this ⊢; omega)
      have HF2 := Lib.hid hf2
      clear hown hb2 hr2 hf2 hov HRD HST
      go_wp2_with (refine wpList_copy_own rfl (.tmp 43) (.tmp 44) 22 22 rfl 5 Try.underlying22 (by kernel_rfl) gb (j * 512) (n - j * 512) (n - j * 512) ⟨b2, o2, none⟩ 512 _ rfl rfl _ 5 HF2.out ((x.take (n - j * 512)).map bv) HN2.out HSRC.out HFIT.out (bv_one _) ?_; generalize w2.setRow _ _ = w3 at HOV ⊢)
      go_roundw
      case rel => exact ⟨j + 1, by omega, by go_num, HOV.out.1, HOV.out.2⟩
      case measure => simp [intOf]; omega
    · obtain rfl : j = K := by omega
      rw [HEND.out] at hf
      have hol : out.length = n := by rw [← HEND.out]; exact HLEN.out j (by have := HNN.out; omega)
      have HO := Lib.hid (hf.own (base := gb) (Nat.le_refl _) (by omega))
      have HB := Lib.hid hb
      have HOL := Lib.hid hol
      clear hf hb hol
      go_wp2
      go_ret2
      refine ⟨some ⟨gb, 0, none⟩, out.length, ?_, HGB.out ▸ HO.out, HGB.out ▸ HB.out⟩
      rw [HOL.out]
      rfl

set_option maxRecDepth 100000 in
set_option maxHeartbeats 1000000 in
theorem eread_off (k : Dk S w g h c W cw bs ws left true) (N : Nat) (hN : bs.length = 512 * N) (hN2 : N ≤ 128) (p n : Nat) (hn : 0 < n) (hfit : p + need n ≤ N) :
    Calls Try.prog 13 #[.pointer (some ⟨g, 0, none⟩), .int .i64 (p : Int), .int .i64 (n : Int)] w fun e w' => e = .returned (.tuple #[.slice none 0 0, .iface 54 (.int .i64 6)]) ∧ Below w.heap.size w w' := by
  obtain ⟨K, hK⟩ : ∃ K, need n = K := ⟨_, rfl⟩
  have hbl : n ≤ 65536 := by unfold need at hfit; omega
  have hK0 : 0 < K := by unfold need at hK; omega
  have HF := Lib.hid (efits_yes k N hN hN2 p n hfit)
  have HE := Lib.hid (fun w => esectors_any w n (by omega) K hK)
  rw [hK] at hfit
  have hmk : ∀ W : World, (Instr.makeSlice 22 (.int .i64 (n : Int)) (.int .i64 (n : Int))).run Try.prog W = .ok (.slice (some ⟨W.heap.size, 0, none⟩) n n) (W.alloc (.cells (madeCells #[.int .u8 0] n) 5)) := fun W => run_make_row' (P := Try.prog) 22 5 (.int .u8 0) 1 Try.underlying22 u8_info rfl .i64 .i64 n (by omega) (by omega) W
  obtain ⟨w0, hw0⟩ : ∃ w0, w.alloc (.cells (madeCells #[.int .u8 0] n) 5) = w0 := ⟨_, rfl⟩
  have hbl0 : Below w.heap.size w w0 := by rw [← hw0]; exact (Below.refl _ _).alloc (Nat.le_refl _) _
  have HW0 := Lib.hid hw0
  have hrd := dread_off (k.below hbl0) (by omega) p (by omega)
  have HRD := Lib.hid hrd
  have HB0 := Lib.hid hbl0
  clear hw0 hbl0 k hN hrd
  go_enter Try.func13, Try.ntmps13
  go_wp2_with fail
  with_reducible refine HF.out.mono ?_
  rintro e w1 ⟨rfl, rfl⟩
  clear HF
  go_wp2_with fail
  rw [HW0.out]
  with_reducible refine (HE.out w0).mono ?_
  rintro e w1 ⟨rfl, rfl⟩
  clear HE hmk HW0
  go_wp2
  go_loopw [26] (fun i wr => i = .int .i64 0 ∧ wr = w0) (fun i _ => 0)
  case atStart => exact ⟨rfl, rfl⟩
  case round =>
    obtain ⟨rfl, rfl⟩ := hrel
    go_wp2_with fail
    with_reducible refine HRD.out.mono ?_
    rintro e w2 ⟨rfl, rfl⟩
    go_wp2
    go_ret2
    exact ⟨rfl, HB0.out⟩

set_option maxRecDepth 100000 in
set_option maxHeartbeats 400000 in
theorem eread_arg (k : Dk S w g h c W cw bs ws left off) (N : Nat) (hN : bs.length = 512 * N) (hN2 : N ≤ 128) (p n : Int) (hn2 : n ≤ 9223372036854775807) (hfit : n < 0 ∨ p < 0 ∨ (N : Int) < p + need n.toNat) :
    Calls Try.prog 13 #[.pointer (some ⟨g, 0, none⟩), .int .i64 p, .int .i64 n] w fun e w' => e = .returned (.tuple #[.slice none 0 0, .iface 54 (.int .i64 1)]) ∧ w = w' := by
  by_cases h0 : n < 0
  · clear hfit k
    go_enter Try.func13, Try.ntmps13
    go_wp2
    go_ret2
    exact ⟨rfl, rfl⟩
  · obtain ⟨m, rfl⟩ : ∃ m : Nat, n = (m : Int) := ⟨n.toNat, by omega⟩
    have HF := Lib.hid (efits_no k N hN hN2 p m (by omega) (by simpa using hfit.resolve_left h0))
    clear k hN hfit
    go_enter Try.func13, Try.ntmps13
    go_wp2_with fail
    with_reducible refine HF.out.mono ?_
    rintro e w1 ⟨rfl, rfl⟩
    go_wp2
    go_ret2
    exact ⟨rfl, rfl⟩
end
end Go.Proofs.Ytkddcfaomaphaaa
