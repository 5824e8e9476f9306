/- Texts of mine, joined: Lst3, Lst4, Lst6, Spec10, Fit1, Fit2, Fit3, Law10a, Law10t. -/
import Derived.Test.YtjokbjmfnidmjaaM6

/- The contract of the program's Put. -/
namespace Go.Proofs.Ytjokbjmfnidmjaa
open Go.RowKit

section
variable {w w1 : World} {g base cap c : Nat} {A : Option Addr} {bs b1 : List UInt8}
theorem became_of (h : Ar w 85 g base cap A c bs) (hb : Below w.heap.size w w1) : Became 85 g base cap A bs w w1 := ⟨A, c, h.below hb, Tch.of_below hb, .inl rfl⟩
theorem became_set (h : Became 85 g base cap A b1 w w1) (hb : base ≤ 4611686018427387904) (hl : b1.length ≤ 16384) (o : Int) (p : Nat) (hp : o = (p : Int)) (ho : p + 8 ≤ b1.length) (v : Nat) (hv : v < 18446744073709551616) :
    Calls Try.prog 60 #[.pointer (some ⟨g, 0, none⟩), .int .i64 o, .int .u64 (v : Int)] w1 fun e w2 => e = .returned (.tuple #[]) ∧ Became 85 g base cap A (lyN b1 p v) w w2 :=
  step_became h fun _ _ a => lset_any a hb hl o p hp ho v hv
theorem became_num (h : Became 85 g base cap A b1 w w1) (hb : base ≤ 4611686018427387904) (hl : b1.length ≤ 16384) (o : Int) (p : Nat) (hp : o = (p : Int)) (ho : p + 8 ≤ b1.length) (v : Nat) (hv : wordN b1 p = v) :
    Calls Try.prog 41 #[.pointer (some ⟨g, 0, none⟩), .int .i64 o] w1 fun e w2 => e = .returned (.int .u64 (v : Int)) ∧ w1 = w2 := by
  obtain ⟨_, _, a, _, _⟩ := h
  exact lnumber_any a hb hl o p hp ho v hv

set_option maxRecDepth 100000 in
set_option maxHeartbeats 1000000 in
theorem lsetfirst_no (h : Ar w 85 g base cap A c bs) (hb : base ≤ 4611686018427387904) (n : Nat) (hn : bs.length = n) (hl : n ≤ 16384) (hl2 : 184 ≤ n) (k : Nat) (hk : k < 22) :
    Calls Try.prog 61 #[.pointer (some ⟨g, 0, none⟩), .int .i64 (k : Int), .int .u64 0] w fun e w' => e = .returned (.tuple #[]) ∧ Became 85 g base cap A (markB (lyN bs (8 + 8 * k) 0) k) w w' := by
  obtain ⟨b1, hb1⟩ : ∃ b1, lyN bs (8 + 8 * k) 0 = b1 := ⟨_, rfl⟩
  have hbl : b1.length = n := by rw [← hb1, lyN_length _ _ _ (by omega)]; exact hn
  have hw1 : wordN b1 (8 + 8 * k) = 0 := by rw [← hb1]; exact wordN_same _ _ _ (by omega) (by omega)
  obtain ⟨v0, hv0⟩ : ∃ v0, wordN b1 0 = v0 := ⟨_, rfl⟩
  have hvl : v0 < 18446744073709551616 := by rw [← hv0]; exact wordN_lt _ _
  obtain ⟨m, hm⟩ : ∃ m, 2 ^ k = m := ⟨_, rfl⟩
  have hml : m ≤ 2097152 := by rw [← hm]; exact pow22 k hk
  obtain ⟨x, hx⟩ : ∃ x, bitTo v0 k false = x := ⟨_, rfl⟩
  have hxl : x < 18446744073709551616 := by rw [← hx]; exact bitTo_lt v0 k hk hvl false
  have hand : bits .andNot .u64 (v0 : Int) (m : Int) = (x : Int) := by rw [← hm, ← hx]; exact andnot_bit v0 k hvl hk
  have hmk : markB b1 k = lyN b1 0 x := by rw [markB_eq b1 k (by omega), hw1, hv0]; simpa using congrArg (lyN b1 0) hx
  have HS1 := lset_any h hb (by omega) (8 + 8 * (k : Int)) (8 + 8 * k) (by omega) (by omega) 0 (by omega)
  rw [hb1] at HS1 ⊢
  rw [hmk]
  have HS1 := Lib.hid HS1
  have HF := Lib.hid (lfirst_any w k hk)
  have HT := fun W => lbit_any W k hk
  rw [hm] at HT
  have HT := Lib.hid HT
  have HN := Lib.hid (fun W (hB : Became 85 g base cap A b1 w W) => became_num hB hb (by omega) 0 0 rfl (by omega) v0 hv0)
  have HS2 := Lib.hid (fun W (hB : Became 85 g base cap A b1 w W) => became_set hB hb (by omega) 0 0 rfl (by omega) x hxl)
  clear h hb1 hw1 hv0 hm hx hmk hn hbl
  go_enter Try.func61, Try.ntmps61
  go_wp2_with fail
  with_reducible refine HF.out.mono ?_
  rintro e w2 ⟨rfl, rfl⟩
  go_wp2_with fail
  refine HS1.out.mono ?_
  rintro e w2 ⟨rfl, be1⟩
  have B1 := Lib.hid be1
  clear be1
  go_wp2_with fail
  refine (HN.out _ B1.out).mono ?_
  rintro e w3 ⟨rfl, rfl⟩
  go_wp2_with fail
  with_reducible refine (HT.out _).mono ?_
  rintro e w3 ⟨rfl, rfl⟩
  go_wp2_with fail
  refine (HS2.out _ B1.out).mono ?_
  rintro e w3 ⟨rfl, be2⟩
  have B2 := Lib.hid be2
  clear be2
  go_wp2
  go_end0
  exact ⟨rfl, B2.out⟩

set_option maxRecDepth 100000 in
set_option maxHeartbeats 1000000 in
theorem lsetfirst_yes (h : Ar w 85 g base cap A c bs) (hb : base ≤ 4611686018427387904) (n : Nat) (hn : bs.length = n) (hl : n ≤ 16384) (hl2 : 184 ≤ n) (k : Nat) (hk : k < 22) (v : Nat) (hv : v < 18446744073709551616) (hv0 : v ≠ 0) :
    Calls Try.prog 61 #[.pointer (some ⟨g, 0, none⟩), .int .i64 (k : Int), .int .u64 (v : Int)] w fun e w' => e = .returned (.tuple #[]) ∧ Became 85 g base cap A (markB (lyN bs (8 + 8 * k) v) k) w w' := by
  obtain ⟨b1, hb1⟩ : ∃ b1, lyN bs (8 + 8 * k) v = b1 := ⟨_, rfl⟩
  have hbl : b1.length = n := by rw [← hb1, lyN_length _ _ _ (by omega)]; exact hn
  have hw1 : wordN b1 (8 + 8 * k) = v := by rw [← hb1]; exact wordN_same _ _ _ (by omega) (by omega)
  obtain ⟨v1, hv1⟩ : ∃ v1, wordN b1 0 = v1 := ⟨_, rfl⟩
  have hvl : v1 < 18446744073709551616 := by rw [← hv1]; exact wordN_lt _ _
  obtain ⟨m, hm⟩ : ∃ m, 2 ^ k = m := ⟨_, rfl⟩
  have hml : m ≤ 2097152 := by rw [← hm]; exact pow22 k hk
  obtain ⟨x, hx⟩ : ∃ x, bitTo v1 k false = x := ⟨_, rfl⟩
  obtain ⟨y, hy⟩ : ∃ y, bitTo v1 k true = y := ⟨_, rfl⟩
  have hxl : x < 18446744073709551616 := by rw [← hx]; exact bitTo_lt v1 k hk hvl false
  have hyl : y < 18446744073709551616 := by rw [← hy]; exact bitTo_lt v1 k hk hvl true
  have hand : bits .andNot .u64 (v1 : Int) (m : Int) = (x : Int) := by rw [← hm, ← hx]; exact andnot_bit v1 k hvl hk
  have hor : bits .or .u64 (x : Int) (m : Int) = (y : Int) := by
    rw [← hy, bitTo_on, hx, ← hm]
    exact or_bit x k hxl hk (by rw [← hx]; exact bitTo_off v1 k)
  have hmk : markB b1 k = lyN b1 0 y := by rw [markB_eq b1 k (by omega), hw1, hv1, decide_eq_true hv0, hy]
  have hne : ((v : Int) != 0) = true := by rw [bne_iff_ne]; omega
  have HS1 := lset_any h hb (by omega) (8 + 8 * (k : Int)) (8 + 8 * k) (by omega) (by omega) v hv
  rw [hb1] at HS1 ⊢
  rw [hmk]
  have HS1 := Lib.hid HS1
  have HF := Lib.hid (lfirst_any w k hk)
  have HT := fun W => lbit_any W k hk
  rw [hm] at HT
  have HT := Lib.hid HT
  have HN := Lib.hid (fun W (hB : Became 85 g base cap A b1 w W) => became_num hB hb (by omega) 0 0 rfl (by omega) v1 hv1)
  have HS2 := Lib.hid (fun W (hB : Became 85 g base cap A b1 w W) => became_set hB hb (by omega) 0 0 rfl (by omega) y hyl)
  clear h hb1 hw1 hv1 hm hx hy hmk hn hbl
  go_enter Try.func61, Try.ntmps61
  go_wp2_with fail
  with_reducible refine HF.out.mono ?_
  rintro e w2 ⟨rfl, rfl⟩
  go_wp2_with fail
  refine HS1.out.mono ?_
  rintro e w2 ⟨rfl, be1⟩
  have B1 := Lib.hid be1
  clear be1
  go_wp2_with fail
  refine (HN.out _ B1.out).mono ?_
  rintro e w3 ⟨rfl, rfl⟩
  go_wp2_with fail
  with_reducible refine (HT.out _).mono ?_
  rintro e w3 ⟨rfl, rfl⟩
  go_wp2_with fail
  with_reducible refine (HT.out _).mono ?_
  rintro e w3 ⟨rfl, rfl⟩
  go_wp2_with fail
  refine (HS2.out _ B1.out).mono ?_
  rintro e w3 ⟨rfl, be2⟩
  have B2 := Lib.hid be2
  clear be2
  go_wp2
  go_end0
  exact ⟨rfl, B2.out⟩

theorem became_first (h : Became 85 g base cap A b1 w w1) (hb : base ≤ 4611686018427387904) (n : Nat) (hn : b1.length = n) (hl : n ≤ 16384) (hl2 : 184 ≤ n) (k : Nat) (hk : k < 22) (v : Nat) (hv : v < 18446744073709551616) :
    Calls Try.prog 61 #[.pointer (some ⟨g, 0, none⟩), .int .i64 (k : Int), .int .u64 (v : Int)] w1 fun e w2 => e = .returned (.tuple #[]) ∧ Became 85 g base cap A (markB (lyN b1 (8 + 8 * k) v) k) w w2 := by
  refine step_became h fun _ _ a => ?_
  by_cases h0 : v = 0
  · subst h0
    exact lsetfirst_no a hb n hn hl hl2 k hk
  · exact lsetfirst_yes a hb n hn hl hl2 k hk v hv h0
end
end Go.Proofs.Ytjokbjmfnidmjaa

/- The contract of the program's Put (genlst.py). -/
namespace Go.Proofs.Ytjokbjmfnidmjaa
open Go.RowKit

section
variable {w : World} {g base cap c : Nat} {A : Option Addr} {bs : List UInt8}
set_option maxRecDepth 100000 in
set_option maxHeartbeats 2000000 in
theorem lput_no (h : Ar w 85 g base cap A c bs) (hb : base ≤ 4611686018427387904) (n : Nat) (hn : bs.length = n) (hl : n ≤ 16384) (o : Int) (ho : -9223372036854775808 ≤ o ∧ o ≤ 9223372036854775807) (hk : freeI bs o < 0) :
    Calls Try.prog 31 #[.pointer (some ⟨g, 0, none⟩), .int .i64 o] w fun e w' => e = .returned (errV false 3) ∧ Below w.heap.size w w' := by
  have HF := Lib.hid (lfree_no h hb (by omega) o ho hk)
  clear h hk hn
  go_enter Try.func31, Try.ntmps31
  go_wp2_with fail
  with_reducible refine HF.out.mono ?_
  rintro e w1 ⟨rfl, hb1⟩
  have HB := Lib.hid hb1
  clear hb1
  go_wp2
  go_ret
  exact ⟨rfl, HB.out⟩

set_option maxRecDepth 100000 in
set_option maxHeartbeats 2000000 in
theorem lput_same (h : Ar w 85 g base cap A c bs) (hb : base ≤ 4611686018427387904) (n : Nat) (hn : bs.length = n) (hl : n ≤ 16384) (p k f : Nat) (hk : freeI bs (p : Int) = (k : Int)) (hf : wordN bs (8 + 8 * k) = f) (hfp : f = p) :
    Calls Try.prog 31 #[.pointer (some ⟨g, 0, none⟩), .int .i64 (p : Int)] w fun e w' => e = .returned (errV false 3) ∧ Below w.heap.size w w' := by
  obtain ⟨p184, p32, k22⟩ := freeI_in hk
  have hfl : f < 18446744073709551616 := by rw [← hf]; exact wordN_lt _ _
  have HF := Lib.hid (lfree_yes h hb (by omega) (p : Int) (by omega) k hk)
  have HFA := Lib.hid (fun W => lfirst_any W k k22)
  have HNF := Lib.hid (fun W (hB : Below w.heap.size w W) => lnumber_any (h.below hB) hb (by omega) (8 + 8 * (k : Int)) (8 + 8 * k) (by omega) (by omega) f hf)
  have hp2 : p + 32 ≤ n := by omega
  have hp3 : 184 ≤ p := by omega
  have s1 : ((f : Int) == (p : Int)) = true := by rw [beq_iff_eq]; omega
  clear h hk hf hn hfp
  go_enter Try.func31, Try.ntmps31
  go_wp2_with fail
  with_reducible refine HF.out.mono ?_
  rintro e w1 ⟨rfl, hb1⟩
  have HB := Lib.hid hb1
  clear hb1 HF
  go_wp2_with fail
  refine (HFA.out _).mono ?_
  rintro e w9 ⟨rfl, rfl⟩
  go_wp2_with fail
  refine (HNF.out _ HB.out).mono ?_
  rintro e w9 ⟨rfl, rfl⟩
  clear HFA HNF
  go_wp2
  go_ret
  exact ⟨rfl, HB.out⟩

set_option maxRecDepth 100000 in
set_option maxHeartbeats 2000000 in
theorem lput_other (h : Ar w 85 g base cap A c bs) (hb : base ≤ 4611686018427387904) (n : Nat) (hn : bs.length = n) (hl : n ≤ 16384) (p k f : Nat) (hk : freeI bs (p : Int) = (k : Int)) (hf : wordN bs (8 + 8 * k) = f) (hfp : f ≠ p) (hf0 : f ≠ 0) (hm : memberB bs f (k : Int) = false) :
    Calls Try.prog 31 #[.pointer (some ⟨g, 0, none⟩), .int .i64 (p : Int)] w fun e w' => e = .returned (errV false 3) ∧ Below w.heap.size w w' := by
  obtain ⟨p184, p32, k22⟩ := freeI_in hk
  have hfl : f < 18446744073709551616 := by rw [← hf]; exact wordN_lt _ _
  have HF := Lib.hid (lfree_yes h hb (by omega) (p : Int) (by omega) k hk)
  have HFA := Lib.hid (fun W => lfirst_any W k k22)
  have HNF := Lib.hid (fun W (hB : Below w.heap.size w W) => lnumber_any (h.below hB) hb (by omega) (8 + 8 * (k : Int)) (8 + 8 * k) (by omega) (by omega) f hf)
  have hp2 : p + 32 ≤ n := by omega
  have hp3 : 184 ≤ p := by omega
  have HM := Lib.hid (fun W (hB : Below w.heap.size w W) => lmember_any (h.below hB) hb (by omega) k f k22 hfl _ hm)
  have s1 : ((f : Int) == (p : Int)) = false := by rw [beq_eq_false_iff_ne]; omega
  have s2 : ((f : Int) != 0) = true := by rw [bne_iff_ne]; omega
  clear h hk hf hn hm
  go_enter Try.func31, Try.ntmps31
  go_wp2_with fail
  with_reducible refine HF.out.mono ?_
  rintro e w1 ⟨rfl, hb1⟩
  have HB := Lib.hid hb1
  clear hb1 HF
  go_wp2_with fail
  refine (HFA.out _).mono ?_
  rintro e w9 ⟨rfl, rfl⟩
  go_wp2_with fail
  refine (HNF.out _ HB.out).mono ?_
  rintro e w9 ⟨rfl, rfl⟩
  clear HFA HNF
  go_wp2_with fail
  refine (HM.out _ HB.out).mono ?_
  rintro e w2 ⟨rfl, hb2⟩
  have HB2 := Lib.hid (HB.out.trans (hb2.mono HB.out.size))
  clear hb2 HM HB
  go_wp2
  go_ret
  exact ⟨rfl, HB2.out⟩

set_option maxRecDepth 100000 in
set_option maxHeartbeats 2000000 in
theorem lput_empty (h : Ar w 85 g base cap A c bs) (hb : base ≤ 4611686018427387904) (n : Nat) (hn : bs.length = n) (hl : n ≤ 16384) (p k f : Nat) (hk : freeI bs (p : Int) = (k : Int)) (hf : wordN bs (8 + 8 * k) = f) (hf0 : f = 0) :
    Calls Try.prog 31 #[.pointer (some ⟨g, 0, none⟩), .int .i64 (p : Int)] w fun e w' => e = .returned (errV true 3) ∧ Became 85 g base cap A (markB (lyN (lyN (lyN bs (p + 8) f) (p + 16) 0) (8 + 8 * k) p) k) w w' := by
  obtain ⟨p184, p32, k22⟩ := freeI_in hk
  have hfl : f < 18446744073709551616 := by rw [← hf]; exact wordN_lt _ _
  have HF := Lib.hid (lfree_yes h hb (by omega) (p : Int) (by omega) k hk)
  have HFA := Lib.hid (fun W => lfirst_any W k k22)
  have HNF := Lib.hid (fun W (hB : Below w.heap.size w W) => lnumber_any (h.below hB) hb (by omega) (8 + 8 * (k : Int)) (8 + 8 * k) (by omega) (by omega) f hf)
  have hp2 : p + 32 ≤ n := by omega
  have hp3 : 184 ≤ p := by omega
  have s1 : ((f : Int) == (p : Int)) = false := by rw [beq_eq_false_iff_ne]; omega
  have s2 : ((f : Int) != 0) = false := by subst hf0; rfl
  have HBO := Lib.hid (fun W (hB : Below w.heap.size w W) => became_of h hB)
  obtain ⟨b1, hb1⟩ : ∃ b, lyN bs (p + 8) f = b := ⟨_, rfl⟩
  have nb1 : b1.length = n := by rw [← hb1, lyN_length _ _ _ (by omega)]; exact hn
  have HS1 := fun W (hB : Became 85 g base cap A bs w W) => became_set hB hb (by omega) ((p : Int) + 8) (p + 8) (by omega) (by omega) f hfl
  rw [hb1] at HS1 ⊢
  have HS1 := Lib.hid HS1
  obtain ⟨b2, hb2⟩ : ∃ b, lyN b1 (p + 16) 0 = b := ⟨_, rfl⟩
  have nb2 : b2.length = n := by rw [← hb2, lyN_length _ _ _ (by omega)]; exact nb1
  have HS2 := fun W (hB : Became 85 g base cap A b1 w W) => became_set hB hb (by omega) ((p : Int) + 16) (p + 16) (by omega) (by omega) 0 (by omega)
  rw [hb2] at HS2 ⊢
  have HS2 := Lib.hid HS2
  have HSF := Lib.hid (fun W (hB : Became 85 g base cap A b2 w W) => became_first hB hb n nb2 hl (by omega) k k22 p (by omega))
  clear hb1 nb1 hb2 nb2
  clear h hk hf hn hf0
  go_enter Try.func31, Try.ntmps31
  go_wp2_with fail
  with_reducible refine HF.out.mono ?_
  rintro e w1 ⟨rfl, hb1⟩
  have HB := Lib.hid hb1
  clear hb1 HF
  go_wp2_with fail
  refine (HFA.out _).mono ?_
  rintro e w9 ⟨rfl, rfl⟩
  go_wp2_with fail
  refine (HNF.out _ HB.out).mono ?_
  rintro e w9 ⟨rfl, rfl⟩
  clear HFA HNF
  have G0 := Lib.hid (HBO.out _ HB.out)
  clear HBO HB
  go_wp2_with fail
  refine (HS1.out _ G0.out).mono ?_
  rintro e x1 ⟨rfl, bb⟩
  have G1 := Lib.hid bb
  clear bb HS1 G0
  go_wp2_with fail
  refine (HS2.out _ G1.out).mono ?_
  rintro e x2 ⟨rfl, bb⟩
  have G2 := Lib.hid bb
  clear bb HS2 G1
  go_wp2_with fail
  refine (HSF.out _ G2.out).mono ?_
  rintro e x9 ⟨rfl, bb⟩
  have G9 := Lib.hid bb
  clear bb HSF G2
  go_wp2
  go_ret
  exact ⟨rfl, G9.out⟩

set_option maxRecDepth 100000 in
set_option maxHeartbeats 2000000 in
theorem lput_member (h : Ar w 85 g base cap A c bs) (hb : base ≤ 4611686018427387904) (n : Nat) (hn : bs.length = n) (hl : n ≤ 16384) (p k f : Nat) (hk : freeI bs (p : Int) = (k : Int)) (hf : wordN bs (8 + 8 * k) = f) (hfp : f ≠ p) (hf0 : f ≠ 0) (hm : memberB bs f (k : Int) = true) :
    Calls Try.prog 31 #[.pointer (some ⟨g, 0, none⟩), .int .i64 (p : Int)] w fun e w' => e = .returned (errV true 3) ∧ Became 85 g base cap A (markB (lyN (lyN (lyN (lyN bs (p + 8) f) (p + 16) 0) (f + 16) p) (8 + 8 * k) p) k) w w' := by
  obtain ⟨p184, p32, k22⟩ := freeI_in hk
  have hfl : f < 18446744073709551616 := by rw [← hf]; exact wordN_lt _ _
  have HF := Lib.hid (lfree_yes h hb (by omega) (p : Int) (by omega) k hk)
  have HFA := Lib.hid (fun W => lfirst_any W k k22)
  have HNF := Lib.hid (fun W (hB : Below w.heap.size w W) => lnumber_any (h.below hB) hb (by omega) (8 + 8 * (k : Int)) (8 + 8 * k) (by omega) (by omega) f hf)
  have hp2 : p + 32 ≤ n := by omega
  have hp3 : 184 ≤ p := by omega
  have HM := Lib.hid (fun W (hB : Below w.heap.size w W) => lmember_any (h.below hB) hb (by omega) k f k22 hfl _ hm)
  have s1 : ((f : Int) == (p : Int)) = false := by rw [beq_eq_false_iff_ne]; omega
  have s2 : ((f : Int) != 0) = true := by rw [bne_iff_ne]; omega
  have hfin := memberB_in hm
  have hf16 : f + 16 + 8 ≤ n := by omega
  have hf1 : f ≤ 16384 := by omega
  have HBO := Lib.hid (fun W (hB : Below w.heap.size w W) => became_of h hB)
  obtain ⟨b1, hb1⟩ : ∃ b, lyN bs (p + 8) f = b := ⟨_, rfl⟩
  have nb1 : b1.length = n := by rw [← hb1, lyN_length _ _ _ (by omega)]; exact hn
  have HS1 := fun W (hB : Became 85 g base cap A bs w W) => became_set hB hb (by omega) ((p : Int) + 8) (p + 8) (by omega) (by omega) f hfl
  rw [hb1] at HS1 ⊢
  have HS1 := Lib.hid HS1
  obtain ⟨b2, hb2⟩ : ∃ b, lyN b1 (p + 16) 0 = b := ⟨_, rfl⟩
  have nb2 : b2.length = n := by rw [← hb2, lyN_length _ _ _ (by omega)]; exact nb1
  have HS2 := fun W (hB : Became 85 g base cap A b1 w W) => became_set hB hb (by omega) ((p : Int) + 16) (p + 16) (by omega) (by omega) 0 (by omega)
  rw [hb2] at HS2 ⊢
  have HS2 := Lib.hid HS2
  obtain ⟨b3, hb3⟩ : ∃ b, lyN b2 (f + 16) p = b := ⟨_, rfl⟩
  have nb3 : b3.length = n := by rw [← hb3, lyN_length _ _ _ (by omega)]; exact nb2
  have HS3 := fun W (hB : Became 85 g base cap A b2 w W) => became_set hB hb (by omega) ((f : Int) + 16) (f + 16) (by omega) (by omega) p (by omega)
  rw [hb3] at HS3 ⊢
  have HS3 := Lib.hid HS3
  have HSF := Lib.hid (fun W (hB : Became 85 g base cap A b3 w W) => became_first hB hb n nb3 hl (by omega) k k22 p (by omega))
  clear hb1 nb1 hb2 nb2 hb3 nb3
  clear h hk hf hn hm
  go_enter Try.func31, Try.ntmps31
  go_wp2_with fail
  with_reducible refine HF.out.mono ?_
  rintro e w1 ⟨rfl, hb1⟩
  have HB := Lib.hid hb1
  clear hb1 HF
  go_wp2_with fail
  refine (HFA.out _).mono ?_
  rintro e w9 ⟨rfl, rfl⟩
  go_wp2_with fail
  refine (HNF.out _ HB.out).mono ?_
  rintro e w9 ⟨rfl, rfl⟩
  clear HFA HNF
  go_wp2_with fail
  refine (HM.out _ HB.out).mono ?_
  rintro e w2 ⟨rfl, hb2⟩
  have HB2 := Lib.hid (HB.out.trans (hb2.mono HB.out.size))
  clear hb2 HM HB
  have G0 := Lib.hid (HBO.out _ HB2.out)
  clear HBO HB2
  go_wp2_with fail
  refine (HS1.out _ G0.out).mono ?_
  rintro e x1 ⟨rfl, bb⟩
  have G1 := Lib.hid bb
  clear bb HS1 G0
  go_wp2_with fail
  refine (HS2.out _ G1.out).mono ?_
  rintro e x2 ⟨rfl, bb⟩
  have G2 := Lib.hid bb
  clear bb HS2 G1
  go_wp2_with fail
  refine (HS3.out _ G2.out).mono ?_
  rintro e x3 ⟨rfl, bb⟩
  have G3 := Lib.hid bb
  clear bb HS3 G2
  go_wp2_with fail
  refine (HSF.out _ G3.out).mono ?_
  rintro e x9 ⟨rfl, bb⟩
  have G9 := Lib.hid bb
  clear bb HSF G3
  go_wp2
  go_ret
  exact ⟨rfl, G9.out⟩

end
theorem putC : PutC := by
  intro w g base cap c A bs o y h hb hl ho hy
  subst hy
  rcases freeI_cases bs o with hk | ⟨k, hk⟩
  · have e : putB bs o = none := by unfold putB; rw [if_pos hk]
    rw [e]
    exact lput_no h hb _ rfl hl o ho hk
  · obtain ⟨p184, p32, k22⟩ := freeI_in hk
    obtain ⟨p, rfl⟩ : ∃ p : Nat, o = (p : Int) := ⟨o.toNat, by omega⟩
    obtain ⟨f, hf⟩ : ∃ f, wordN bs (8 + 8 * k) = f := ⟨_, rfl⟩
    have e : putB bs (p : Int) = if (f : Int) = (p : Int) ∨ (f ≠ 0 ∧ memberB bs f (k : Int) = false) then none else some (markB (lyN (if f ≠ 0 then lyN (lyN (lyN bs (p + 8) f) (p + 16) 0) (f + 16) p else lyN (lyN bs (p + 8) f) (p + 16) 0) (8 + 8 * k) p) k) := by
      unfold putB
      rw [hk, if_neg (by omega)]
      simp only [Int.toNat_natCast, hf]
    rw [e]
    by_cases hfp : f = p
    · rw [if_pos (.inl (by omega))]
      exact lput_same h hb _ rfl hl p k f hk hf hfp
    · by_cases hf0 : f = 0
      · rw [if_neg (by omega), if_neg (by omega)]
        exact lput_empty h hb _ rfl hl p k f hk hf hf0
      · cases hm : memberB bs f (k : Int) with
        | false =>
          rw [if_pos (.inr ⟨hf0, rfl⟩)]
          exact lput_other h hb _ rfl hl p k f hk hf hfp hf0 hm
        | true =>
          rw [if_neg (fun h1 => h1.elim (fun h2 => hfp (by omega)) (fun h2 => by cases h2.2)), if_pos hf0]
          exact lput_member h hb _ rfl hl p k f hk hf hfp hf0 hm
end Go.Proofs.Ytjokbjmfnidmjaa

/- The contract of the program's All. -/
namespace Go.Proofs.Ytjokbjmfnidmjaa
open Go.RowKit

set_option maxRecDepth 100000 in
set_option maxHeartbeats 4000000 in
theorem allC : AllC := by
  intro w g base cap c A bs k x h hb hl hk hx
  have hk1 : ¬ (k : Int) < 0 := by omega
  have hk2 : ¬ 22 ≤ (k : Int) := by omega
  by_cases h0 : bs.length < 184
  · obtain rfl : none = x := by rw [← hx]; unfold allB; rw [if_pos h0]
    have HL := Lib.hid (len_any h)
    clear hx h
    go_enter Try.func17, Try.ntmps17
    go_wp2_with fail
    with_reducible refine HL.out.mono ?_
    rintro e w1 ⟨rfl, rfl⟩
    go_wp2
    go_ret2
    exact ⟨none, 0, rfl, World.ownsRow_nil _ _ _ _, Below.refl _ _⟩
  · obtain ⟨f, hf⟩ : ∃ f, wordN bs (8 + 8 * k) = f := ⟨_, rfl⟩
    obtain ⟨b, hbt⟩ : ∃ b, bitN (wordN bs 0) k = b := ⟨_, rfl⟩
    have hfl : f < 18446744073709551616 := by rw [← hf]; exact wordN_lt _ _
    have hx' : (if b ≠ decide (f ≠ 0) then none else allF bs k 1024 0 f) = x := by rw [← hx]; unfold allB; rw [if_neg h0, hf, hbt]
    have HL := Lib.hid (len_any h)
    have HFA := Lib.hid (lfirst_any w k hk)
    have HNF := Lib.hid (lnumber_any h hb hl (8 + 8 * (k : Int)) (8 + 8 * k) (by omega) (by omega) f hf)
    have HBT := Lib.hid (lhasbit_any h hb hl (by omega) k hk b hbt)
    have HAR := Lib.hid h
    have HBASE := Lib.hid hb
    obtain ⟨d, hd⟩ : ∃ d, decide (f ≠ 0) = d := ⟨_, rfl⟩
    have hd2 : ((f : Int) != 0) = d := by
      rw [← hd, Bool.eq_iff_iff, bne_iff_ne, decide_eq_true_eq]; omega
    rw [hd] at hx'
    clear hf hbt hx h hb
    by_cases hbd : b = d
    · subst hbd
      rw [if_neg (by simp)] at hx'
      obtain ⟨i0, hi, hz0, hz1, hz2⟩ := info_parts int_inf
      have HX := Lib.hid hx'
      obtain ⟨B0, hB0⟩ : ∃ B0, w.heap.size = B0 := ⟨_, rfl⟩
      have HB0 := Lib.hid hB0
      have hbb : (b != b) = false := by simp
      clear hx' hB0 hd
      go_enter Try.func17, Try.ntmps17
      go_wp2_with fail
      with_reducible refine HL.out.mono ?_
      rintro e w1 ⟨rfl, rfl⟩
      go_wp2_with fail
      with_reducible refine HFA.out.mono ?_
      rintro e w1 ⟨rfl, rfl⟩
      go_wp2_with fail
      with_reducible refine HNF.out.mono ?_
      rintro e w1 ⟨rfl, rfl⟩
      go_wp2_with fail
      with_reducible refine HBT.out.mono ?_
      rintro e w1 ⟨rfl, rfl⟩
      clear HL HFA HNF HBT
      go_wp2
      clear hd2
      go_loopw [6, 7, 8] (fun q o t wr => ∃ (p last n : Nat) (l : List Nat), q = .int .u64 (p : Int) ∧ t = .int .u64 (last : Int) ∧ p < 18446744073709551616 ∧ last < 18446744073709551616 ∧ n + l.length = 1024 ∧ x = (allF bs k n last p).map (l ++ ·) ∧ wr.ownsRow B0 3 1 o l.length (l.map iV) ∧ Below B0 w wr) (fun _ o _ _ => match o with | .slice _ n _ => 1024 - n | _ => 0)
      case atStart => exact ⟨f, 0, 1024, [], rfl, rfl, hfl, by omega, rfl, by rw [HX.out]; simp, World.ownsRow_nil _ _ _ _, Below.refl _ _⟩
      case round =>
        obtain ⟨p, last, n, l, rfl, rfl, hp, hlast, hn, hxl, hown, hbw⟩ := hrel
        obtain ⟨A7, c7, rfl⟩ := own_sl hown
        have hBw : B0 ≤ wr.heap.size := by have := hbw.size; have := HB0.out; omega
        by_cases hp0 : p = 0
        · subst hp0
          obtain rfl : x = some l := by rw [hxl]; cases n <;> simp [allF]
          have HB := Lib.hid hbw
          have HO := Lib.hid hown
          clear hxl hown hbw HX HAR HBASE
          go_wp2
          go_ret2
          exact ⟨A7, c7, rfl, by rw [HB0.out]; exact HO.out, by rw [HB0.out]; exact HB.out⟩
        · have hq0 : ((p : Int) != 0) = true := by rw [bne_iff_ne]; omega
          have har := HAR.out.below (by rw [HB0.out]; exact hbw)
          by_cases hn0 : n = 0
          · subst hn0
            obtain rfl : x = none := by rw [hxl]; simp [allF, hp0]
            have e1 : ((l.length : Int) == 1024) = true := by rw [beq_iff_eq]; omega
            have HB := Lib.hid hbw
            clear hxl hown hbw HX HAR HBASE har
            go_wp2
            go_ret2
            exact ⟨none, 0, rfl, World.ownsRow_nil _ _ _ _, by rw [HB0.out]; exact HB.out⟩
          · obtain ⟨n, rfl⟩ : ∃ n', n = n' + 1 := ⟨n - 1, by omega⟩
            have e1 : ((l.length : Int) == 1024) = false := by rw [beq_eq_false_iff_ne]; omega
            have hstep : x = (if memberB bs p (k : Int) = true ∧ wordN bs (p + 16) = last then (allF bs k n p (wordN bs (p + 8))).map (p :: ·) else none).map (l ++ ·) := by
              rw [hxl]
              conv => lhs; unfold allF
              rw [if_neg hp0]
            cases hm : memHas bs k p 16 last with
            | false =>
              rw [if_neg (by
                rintro ⟨h1, h2⟩
                unfold memHas at hm
                rw [h1, h2] at hm
                simp at hm)] at hstep
              obtain rfl : x = none := hstep
              have HM := Lib.hid (lhas_any har HBASE.out hl k p 16 last hk hp (by omega) false hm)
              have HB := Lib.hid hbw
              clear hxl hown hbw HX HAR HBASE har hm
              go_wp2_with fail
              refine HM.out.mono ?_
              rintro e w2 ⟨rfl, hb2⟩
              have HB2 := Lib.hid (HB.out.trans (hb2.mono hBw))
              clear hb2
              go_wp2
              go_ret2
              exact ⟨none, 0, rfl, World.ownsRow_nil _ _ _ _, by rw [HB0.out]; exact HB2.out⟩
            | true =>
              obtain ⟨hm1, hm2⟩ : memberB bs p (k : Int) = true ∧ wordN bs (p + 16) = last := by
                unfold memHas at hm
                rw [Bool.and_eq_true, beq_iff_eq] at hm
                exact hm
              have hpf := memberB_in hm1
              obtain ⟨nx, hnx⟩ : ∃ nx, wordN bs (p + 8) = nx := ⟨_, rfl⟩
              have hnl : nx < 18446744073709551616 := by rw [← hnx]; exact wordN_lt _ _
              rw [if_pos ⟨hm1, hm2⟩, hnx] at hstep
              have hstep' : x = (allF bs k n p nx).map ((l ++ [p]) ++ ·) := by
                rw [hstep, Option.map_map]
                congr 1
                funext r
                simp
              have hp16 : p ≤ 16384 := by omega
              have hww : w.heap.size ≤ wr.heap.size := by have := HB0.out; omega
              have HN := Lib.hid (fun W (hB : Below w.heap.size w W) => lnumber_any (HAR.out.below hB) HBASE.out hl ((p : Int) + 8) (p + 8) (by omega) (by omega) nx hnx)
              have HM := Lib.hid (lhas_any har HBASE.out hl k p 16 last hk hp (by omega) true hm)
              have HB := Lib.hid hbw
              have HS := Lib.hid hstep'
              have HOWN := Lib.hid hown
              have HALT : Hid (∀ k, (Value.slice A7 l.length c7).ownBlock = some k → B0 ≤ k ∧ k < wr.heap.size) := hown.lt
              clear hxl hstep hstep' hown hbw HX hm hm1 hm2 hnx har HAR HBASE
              go_wp2_with fail
              refine HM.out.mono ?_
              rintro e w2 ⟨rfl, hb2⟩
              have H2 := Lib.hid hb2
              have own4 := own_below' (own_below' HOWN.out hb2) ((Below.refl w2.heap.size w2).alloc (Nat.le_refl _) (.cells #[.int .i64 (p : Int)] 3))
              have n4 : (w2.alloc (.cells #[.int .i64 (p : Int)] 3)).heap[w2.heap.size]? = some (.cells #[.int .i64 (p : Int)] 3 (0, 0)) := heap_alloc_new w2 _
              have HNEW : Hid (∀ j u, [Value.int .i64 (p : Int)][j]? = some u → (w2.alloc (.cells #[.int .i64 (p : Int)] 3)).cell? ((⟨w2.heap.size, 0, none⟩ : Addr).add j) = some u) := fun j u hu => by
                have e : (⟨w2.heap.size, 0, none⟩ : Addr).add j = ⟨w2.heap.size, j, none⟩ := by unfold Addr.add; split <;> simp_all
                rw [e, cell_of_row _ _ j _ _ (0, 0) n4]
                simpa using hu
              have HONE : Hid (∀ u ∈ [Value.int .i64 (p : Int)], u.oneCell' = true) := fun u hu => by
                simp at hu
                subst hu; rfl
              have hB4 : B0 ≤ (w2.alloc (.cells #[.int .i64 (p : Int)] 3)).heap.size := by simp; have := hb2.size; omega
              have HB4 : Hid (Below w2.heap.size w2 (w2.alloc (.cells #[.int .i64 (p : Int)] 3))) := (Below.refl w2.heap.size w2).alloc (Nat.le_refl _) _
              have OWN4 := Lib.hid own4
              have hsz2 := hb2.size
              clear own4 n4 hb2 HOWN HM
              go_wp2_with (first
                | (at_builtin; go_must (refine wpList_append_own _ rfl _ _ 42 rfl B0 3 i0 _ 1 8 Try.underlying42 hi hz0 hz1 hz2 rfl (by decide) _ l.length (l.map iV) rfl OWN4.out ⟨w2.heap.size, 0, none⟩ 1 1 [.int .i64 (p : Int)] rfl rfl HNEW.out HONE.out (by unfold maxLen; omega) (by omega) hB4 ?_); intro x5 w5 own5 gr5 at5;
                   have gr5' : (w2.alloc (.cells #[.int .i64 (p : Int)] 3)).grownBy w5 (Value.slice A7 l.length c7).ownBlock := gr5; have HB5 : Hid (Below B0 wr w5) := ((H2.out.mono hBw).trans (HB4.out.mono (by omega))).grown gr5' hB4 (fun k hk => (HALT.out k hk).1); have HW5 : Hid (Below w.heap.size w w5) := (show Below w.heap.size w w5 by rw [HB0.out]; exact HB.out.trans HB5.out); have OWN5 : Hid (w5.ownsRow B0 3 1 x5 (l.length + 1) ((l ++ [p]).map iV)) := (show World.ownsRow _ _ _ _ _ _ _ by rw [List.map_append]; exact own5); clear own5 gr5 gr5' at5)
                | fail)
              refine (HN.out w5 HW5.out).mono ?_
              rintro e w6 ⟨rfl, rfl⟩
              have HBE := Lib.hid (HB.out.trans HB5.out)
              clear HN H2 HB4 OWN4 HNEW HONE
              go_wp2
              go_roundw
              case rel => exact ⟨nx, p, n, l ++ [p], rfl, rfl, hnl, hp, by rw [List.length_append, List.length_singleton]; omega, HS.out, by rw [List.length_append, List.length_singleton]; exact OWN5.out, HBE.out⟩
              case measure =>
                obtain ⟨A8, c8, rfl⟩ := own_sl OWN5.out
                simp; omega
    · rw [if_pos hbd] at hx'
      obtain rfl : none = x := hx'
      have hcs : (b = true ∧ d = false) ∨ (b = false ∧ d = true) := by cases b <;> cases d <;> simp_all
      clear hd hbd HAR HBASE
      rcases hcs with ⟨rfl, rfl⟩ | ⟨rfl, rfl⟩
      all_goals
        go_enter Try.func17, Try.ntmps17
        go_wp2_with fail
        with_reducible refine HL.out.mono ?_
        rintro e w1 ⟨rfl, rfl⟩
        go_wp2_with fail
        with_reducible refine HFA.out.mono ?_
        rintro e w1 ⟨rfl, rfl⟩
        go_wp2_with fail
        with_reducible refine HNF.out.mono ?_
        rintro e w1 ⟨rfl, rfl⟩
        go_wp2_with fail
        with_reducible refine HBT.out.mono ?_
        rintro e w1 ⟨rfl, rfl⟩
        clear HL HFA HNF HBT
        go_wp2
        go_ret2
        exact ⟨none, 0, rfl, World.ownsRow_nil _ _ _ _, Below.refl _ _⟩
end Go.Proofs.Ytjokbjmfnidmjaa

/- What the program's fits (layer 10) are to tell: the words in which the laws ask for it. -/
namespace Go.Proofs.Ytjokbjmfnidmjaa
open Go.RowKit

/-- What Find tells. -/
def findV (bs : List UInt8) (s : Int) : Value := if isSz s = true then .tuple #[.int .i64 (((findB bs s).getD 0 : Nat) : Int), errV (findB bs s).isSome 3] else .tuple #[.int .i64 0, errV false 1]
def FindC : Prop := ∀ (w : World) (g base cap c : Nat) (A : Option Addr) (bs : List UInt8) (s : Int), Ar w 85 g base cap A c bs → base ≤ 4611686018427387904 → bs.length ≤ 16384 → (-9223372036854775808 ≤ s ∧ s ≤ 9223372036854775807) →
  Calls Try.prog 8 #[.pointer (some ⟨g, 0, none⟩), .int .i64 s] w fun e w' => e = .returned (findV bs s) ∧ Below w.heap.size w w'
def RebuildC : Prop := ∀ (w : World) (g base cap c : Nat) (A : Option Addr) (bs : List UInt8) (y : Option (List UInt8)), Ar w 85 g base cap A c bs → base ≤ 4611686018427387904 → bs.length ≤ 16384 → rebuildB bs = y →
  Calls Try.prog 12 #[.pointer (some ⟨g, 0, none⟩)] w fun e w' => Done 3 85 g base cap A y w e w'
end Go.Proofs.Ytjokbjmfnidmjaa

/- The program's fits (layer 10): the lists cleared, a block put behind others, the first of a list that has so many bytes. -/
namespace Go.Proofs.Ytjokbjmfnidmjaa
open Go.RowKit

section
variable {w : World} {g base cap c : Nat} {A : Option Addr} {bs : List UInt8}
set_option maxHeartbeats 400000 in
theorem lclear_yes (h : Ar w 85 g base cap A c bs) (hb : base ≤ 4611686018427387904) (hl : bs.length ≤ 16384) (h184 : 184 ≤ bs.length) (z : List UInt8) (hz : List.replicate 184 (0 : UInt8) ++ bs.drop 184 = z) :
    Calls Try.prog 30 #[.pointer (some ⟨g, 0, none⟩)] w fun e w' => e = .returned .nilIface ∧ Became 85 g base cap A z w w' := by
  have HA := Lib.hid (base_any h)
  have hf := fill_ok h (by omega) base 184 0 0 (by omega) (by omega) (by omega) (by omega)
  have e : lay bs 0 (List.replicate 184 (0 : UInt8)) = z := by
    have e1 : (List.replicate 184 (0 : UInt8)).length = 184 := List.length_replicate
    rw [← hz]
    unfold lay
    rw [e1, Nat.zero_add, List.take_zero, List.nil_append]
  rw [e] at hf
  have HF : Hid (Calls Try.prog 57 #[.pointer (some ⟨g, 0, none⟩), .int .u64 (base : Int), .int .u64 184, .int .u8 0] w fun e w' => e = .returned .nilIface ∧ Became 85 g base cap A z w w') := hf
  clear hf e hz h
  go_enter Try.func30, Try.ntmps30
  go_wp2_with fail
  with_reducible refine HA.out.mono ?_
  rintro e w1 ⟨rfl, rfl⟩
  go_wp2_with fail
  refine HF.out.mono ?_
  rintro e w1 ⟨rfl, hbe⟩
  have HB := Lib.hid hbe
  clear hbe
  go_wp2
  go_ret
  exact ⟨rfl, HB.out⟩
end

section
variable {w w1 w2 : World} {g base cap : Nat} {A : Option Addr} {out : List UInt8}
theorem became_below (h : Became 85 g base cap A out w w1) (hb : Below w1.heap.size w1 w2) : Became 85 g base cap A out w w2 := by
  obtain ⟨A', c', a, tc, k⟩ := h
  exact Became.trans a tc k (became_of a hb)
theorem putB_len (h : 184 ≤ out.length) (o : Int) : ((putB out o).getD out).length = out.length := by
  cases hp : putB out o with
  | none => rfl
  | some y => exact (putB_high h hp).1
/-- A block that is put behind others; with an error nothing changes. -/
theorem became_put (h : Became 85 g base cap A out w w1) (hb : base ≤ 4611686018427387904) (hl : out.length ≤ 16384) (o : Int) (ho : -9223372036854775808 ≤ o ∧ o ≤ 9223372036854775807) :
    Calls Try.prog 31 #[.pointer (some ⟨g, 0, none⟩), .int .i64 o] w1 fun e w2 => (∃ v, e = .returned v) ∧ Became 85 g base cap A ((putB out o).getD out) w w2 := by
  obtain ⟨A', c', a, tc, k⟩ := h
  refine (putC w1 g base cap c' A' out o _ a hb hl ho rfl).mono ?_
  intro e w2 hd
  unfold Done at hd
  cases hp : putB out o with
  | none =>
    rw [hp] at hd
    exact ⟨⟨_, hd.1⟩, Became.trans a tc k (became_of a hd.2)⟩
  | some y =>
    rw [hp] at hd
    exact ⟨⟨_, hd.1⟩, Became.trans a tc k hd.2⟩
end

section
variable {w : World} {g base cap c : Nat} {A : Option Addr} {bs : List UInt8}
set_option maxRecDepth 100000 in
set_option maxHeartbeats 2000000 in
theorem ffirst_any (h : Ar w 85 g base cap A c bs) (hb : base ≤ 4611686018427387904) (hl : bs.length ≤ 16384) (A2 : Option Addr) (c2 B1 : Nat) (l : List Nat) (ho : w.ownsRow B1 3 1 (.slice A2 l.length c2) l.length (l.map iV)) (hm : ∀ o ∈ l, o ≤ 20000 ∧ ∃ x, getB bs (o : Int) = some x) (s : Int) (x : Nat) (hx : (l.find? fun o => decide (s ≤ (szB bs o : Int))).getD 0 = x) :
    Calls Try.prog 25 #[.pointer (some ⟨g, 0, none⟩), .slice A2 l.length c2, .int .i64 s] w fun e w' => e = .returned (.int .i64 (x : Int)) ∧ Below w.heap.size w w' := by
  have hcl : l.length ≤ c2 ∧ c2 ≤ 9223372036854775807 := by
    rcases ho.2 with ⟨h', h0⟩ | ⟨_, _, _, h', _, _, h1, h2, _⟩
    · injection h' with _ _ e; rw [h0, e]; omega
    · injection h' with _ _ e; unfold maxLen at h2; omega
  have HX := Lib.hid hx
  have HAR := Lib.hid h
  have HO := Lib.hid ho
  have HMEM := Lib.hid hm
  have HBASE := Lib.hid hb
  obtain ⟨B0, hB0⟩ : ∃ B0, w.heap.size = B0 := ⟨_, rfl⟩
  have HB0 := Lib.hid hB0
  clear hx h ho hm hb hB0
  go_enter Try.func25, Try.ntmps25
  go_wp2
  go_loopw [13] (fun i wr => ∃ j : Nat, j ≤ l.length ∧ i = .int .i64 (j : Int) ∧ (∀ q ∈ l.take j, decide (s ≤ (szB bs q : Int)) = false) ∧ Below B0 w wr) (fun i _ => l.length - (intOf i).toNat)
  case atStart => exact ⟨0, Nat.zero_le _, rfl, by simp, Below.refl _ _⟩
  case round =>
    obtain ⟨j, hj, rfl, hall, hb3⟩ := hrel
    have hBw : B0 ≤ wr.heap.size := by have := hb3.size; have := HB0.out; omega
    by_cases hlt : j < l.length
    · obtain ⟨o, ho⟩ : ∃ o, l[j]? = some o := ⟨l[j], List.getElem?_eq_getElem hlt⟩
      have hb4 : Below w.heap.size w wr := by rw [HB0.out]; exact hb3
      have own3 := own_below' HO.out hb4
      obtain ⟨b2, rfl⟩ : ∃ b2, A2 = some ⟨b2, 0, none⟩ := by
        rcases own3.2 with ⟨_, h0⟩ | ⟨g, _, _, h', _⟩
        · omega
        · injection h' with e; exact ⟨g, e⟩
      have hcell : wr.cell? ⟨b2, j, none⟩ = some (.int .i64 (o : Int)) := by
        rw [own3.cellAt j (by omega), List.getElem?_map, ho]; rfl
      have har := HAR.out.below hb4
      obtain ⟨ho20, ⟨xo, xs, xu⟩, hg⟩ := HMEM.out o (List.mem_of_getElem? ho)
      have hsz := szB_of hg
      dsimp only at hsz
      have hG := getC wr g base cap c A bs (o : Int) _ har HBASE.out hl (by omega) hg
      dsimp only [BlkTold, bkV, Bk.val, Option.isSome, errV] at hG
      have q := (isSz_iff _).1 (getB_some hg).2.2.2.2.1
      dsimp only at q
      have HG := Lib.hid hG
      have HALL := Lib.hid hall
      have HOO := Lib.hid ho
      have HB2R := Lib.hid hb3
      clear hG hg hb3 hb4 own3 hall har ho
      by_cases hge : s ≤ (xs : Int)
      · have hx1 : x = o := by
          rw [← HX.out, find_take HALL.out HOO.out (by rw [hsz]; simpa using hge)]; rfl
        subst hx1
        clear HX
        go_wp2_with fail
        with_reducible refine HG.out.mono ?_
        rintro e w4 ⟨rfl, hb4⟩
        have HB4 := Lib.hid (HB2R.out.trans (hb4.mono hBw))
        have HS4 := Lib.hid hb4.size
        clear hb4
        go_wp2
        go_ret
        exact ⟨rfl, by rw [HB0.out]; exact HB4.out.alloc (by have := HS4.out; omega) _⟩
      · go_wp2_with fail
        with_reducible refine HG.out.mono ?_
        rintro e w4 ⟨rfl, hb4⟩
        have HB4 := Lib.hid (HB2R.out.trans (hb4.mono hBw))
        have HS4 := Lib.hid hb4.size
        clear hb4
        go_wp2
        go_roundw
        case rel => exact ⟨j + 1, by omega, rfl, by
            intro q hq
            rw [List.take_add_one, HOO.out] at hq
            rcases List.mem_append.1 hq with hq | hq
            · exact HALL.out q hq
            · simp at hq
              rw [hq, hsz]
              simpa using hge, HB4.out.alloc (by have := HS4.out; omega) _⟩
        case measure => simp only [intOf]; omega
    · obtain rfl : j = l.length := by omega
      have hx2 : x = 0 := by
        rw [← HX.out, find_none' (by rw [List.take_length] at hall; exact hall)]; rfl
      subst hx2
      have HB4 := Lib.hid hb3
      clear HX hall hb3
      go_wp2
      go_ret
      exact ⟨rfl, by rw [HB0.out]; exact HB4.out⟩
end
end Go.Proofs.Ytjokbjmfnidmjaa

/- The contract of the program's Find. -/
namespace Go.Proofs.Ytjokbjmfnidmjaa
open Go.RowKit

set_option maxRecDepth 100000 in
set_option maxHeartbeats 2000000 in
theorem findC : FindC := by
  intro w g base cap c A bs s h hb hl hs
  cases hz : isSz s
  · have hv : findV bs s = .tuple #[.int .i64 0, errV false 1] := by unfold findV; rw [if_neg (by rw [hz]; simp)]
    have hc : classI s = -1 := by simp [classI, hz]
    rw [hv]
    have hC := classC w s hs
    rw [hc] at hC
    have HC := Lib.hid hC
    clear hz hv hc hC h hb
    go_enter Try.func8, Try.ntmps8
    go_wp2_with fail
    with_reducible refine HC.out.mono ?_
    rintro e w1 ⟨rfl, hb1⟩
    have HB := Lib.hid hb1
    clear hb1
    go_wp2
    go_ret2
    exact ⟨rfl, HB.out⟩
  · obtain ⟨k0, hk0, hk22⟩ : ∃ k0 : Nat, classI s = (k0 : Int) ∧ k0 < 22 := by
      have h1 := classI_bounds s
      have h2 : ¬ classI s < 0 := by rw [classI_neg]; simp [hz]
      exact ⟨(classI s).toNat, by omega, by omega⟩
    obtain ⟨x, hx⟩ : ∃ x, findF bs s (22 - k0) k0 = x := ⟨_, rfl⟩
    have hv : findV bs s = .tuple #[.int .i64 ((x.getD 0 : Nat) : Int), errV x.isSome 3] := by
      unfold findV findB
      rw [if_pos hz, hk0, Int.toNat_natCast, hx]
    rw [hv]
    have hC := classC w s hs
    rw [hk0] at hC
    have HC := Lib.hid hC
    have HX := Lib.hid hx
    have HAR := Lib.hid h
    have HBASE := Lib.hid hb
    obtain ⟨B0, hB0⟩ : ∃ B0, w.heap.size = B0 := ⟨_, rfl⟩
    have HB0 := Lib.hid hB0
    clear hz hv hk0 hC h hx hB0 hb
    go_enter Try.func8, Try.ntmps8
    go_wp2_with fail
    with_reducible refine HC.out.mono ?_
    rintro e w1 ⟨rfl, hb1⟩
    have HB1 := Lib.hid hb1
    clear hb1 HC
    go_wp2
    go_loopw [7] (fun t wr => ∃ d k : Nat, t = .int .i64 (d : Int) ∧ d + k = 22 ∧ x = findF bs s k d ∧ Below B0 w wr) (fun t _ => 22 - (intOf t).toNat)
    case atStart => exact ⟨k0, 22 - k0, rfl, by omega, HX.out.symm, by rw [← HB0.out]; exact HB1.out⟩
    case round =>
      obtain ⟨d, k, rfl, hdk, hxf, hb2⟩ := hrel
      have hBw : B0 ≤ wr.heap.size := by have := hb2.size; have := HB0.out; omega
      by_cases hd22 : d < 22
      · obtain ⟨k, rfl⟩ : ∃ k', k = k' + 1 := ⟨k - 1, by omega⟩
        have har : Ar wr 85 g base cap A c bs := HAR.out.below (by rw [HB0.out]; exact hb2)
        cases ha : allB bs d with
        | none =>
          obtain rfl : x = none := by rw [hxf]; simp [findF, ha]
          have hA := allC wr g base cap c A bs d _ har HBASE.out hl hd22 ha
          dsimp only [NumsTold, Option.isSome, Option.getD, errV] at hA
          have HA := Lib.hid hA
          have HB := Lib.hid hb2
          clear hA hb2 hxf har HX ha HAR
          go_wp2_with fail
          with_reducible refine HA.out.mono ?_
          rintro e w2 ⟨A', c', rfl, _, hb3⟩
          have HB2 := Lib.hid (HB.out.trans (hb3.mono hBw))
          clear hb3
          go_wp2
          go_ret2
          exact ⟨rfl, by rw [HB0.out]; exact HB2.out⟩
        | some l =>
          have hA := allC wr g base cap c A bs d _ har HBASE.out hl hd22 ha
          dsimp only [NumsTold, Option.isSome, Option.getD, errV] at hA
          have hxf' : x = (match l.find? (fun o => decide (s ≤ (szB bs o : Int))) with
            | some o => some o
            | none => findF bs s k (d + 1)) := by
            rw [hxf]
            conv => lhs; unfold findF
            rw [ha] <;> rfl
          have hmem : ∀ o ∈ l, 184 ≤ o ∧ o ≤ 20000 ∧ ∃ x, getB bs (o : Int) = some x := fun o ho => by
            have hm := allB_member ha o ho
            obtain ⟨h1, x, h2⟩ := memberB_get hm
            have := (memberB_in hm)
            exact ⟨by omega, h1, x, h2⟩
          have HF := Lib.hid (fun (W : World) (hB : Below wr.heap.size wr W) (A2 : Option Addr) (c2 B1 : Nat) (ho : W.ownsRow B1 3 1 (.slice A2 l.length c2) l.length (l.map iV)) => ffirst_any (har.below hB) HBASE.out hl A2 c2 B1 l ho (fun o ho => (hmem o ho).2) s)
          have HA := Lib.hid hA
          have HB := Lib.hid hb2
          have HXF := Lib.hid hxf'
          have HMEM := Lib.hid hmem
          clear hA hb2 hxf hxf' har HX ha hmem HAR
          cases hfd : l.find? (fun o => decide (s ≤ (szB bs o : Int))) with
          | some o =>
            obtain rfl : x = some o := by rw [HXF.out, hfd]
            obtain ⟨o184, o20, _⟩ := HMEM.out o (List.mem_of_find?_eq_some hfd)
            have ho0 : ((o : Int) != 0) = true := by rw [bne_iff_ne]; omega
            have HF2 := Lib.hid (fun W hB A2 c2 B1 ho => HF.out W hB A2 c2 B1 ho o (by rw [hfd]; rfl))
            clear HF HXF hfd HMEM
            go_wp2_with fail
            with_reducible refine HA.out.mono ?_
            rintro e w2 ⟨A2, c2, rfl, ho2, hb3⟩
            have HFF := Lib.hid (HF2.out w2 hb3 A2 c2 _ ho2)
            have HB2 := Lib.hid (HB.out.trans (hb3.mono hBw))
            have hs2 := hb3.size
            clear hb3 ho2 HA HF2
            go_wp2_with fail
            with_reducible refine HFF.out.mono ?_
            rintro e w3 ⟨rfl, hb4⟩
            have HB3 := Lib.hid (HB2.out.trans (hb4.mono (by omega)))
            clear hb4 HFF
            go_wp2
            go_ret2
            exact ⟨rfl, by rw [HB0.out]; exact HB3.out⟩
          | none =>
            have hx2 : x = findF bs s k (d + 1) := by rw [HXF.out, hfd]
            have HF2 := Lib.hid (fun W hB A2 c2 B1 ho => HF.out W hB A2 c2 B1 ho 0 (by rw [hfd]; rfl))
            have HX2 := Lib.hid hx2
            clear HF HXF hfd HMEM hx2
            go_wp2_with fail
            with_reducible refine HA.out.mono ?_
            rintro e w2 ⟨A2, c2, rfl, ho2, hb3⟩
            have HFF : Hid (Calls Try.prog 25 #[.pointer (some ⟨g, 0, none⟩), .slice A2 l.length c2, .int .i64 s] w2 fun e w' => e = .returned (.int .i64 0) ∧ Below w2.heap.size w2 w') := HF2.out w2 hb3 A2 c2 _ ho2
            have HB2 := Lib.hid (HB.out.trans (hb3.mono hBw))
            have hs2 := hb3.size
            clear hb3 ho2 HA HF2
            go_wp2_with fail
            with_reducible refine HFF.out.mono ?_
            rintro e w3 ⟨rfl, hb4⟩
            have HB3 := Lib.hid (HB2.out.trans (hb4.mono (by omega)))
            clear hb4 HFF
            go_wp2
            go_roundw
            case rel => exact ⟨d + 1, k, by go_num, by omega, HX2.out, HB3.out⟩
            case measure => simp only [intOf]; omega
      · obtain ⟨rfl, rfl⟩ : d = 22 ∧ k = 0 := by omega
        obtain rfl : x = some 0 := by rw [hxf]; rfl
        have HB := Lib.hid hb2
        clear hxf hb2 HX
        go_wp2
        go_ret2
        exact ⟨rfl, by rw [HB0.out]; exact HB.out⟩
end Go.Proofs.Ytjokbjmfnidmjaa

/- The contract of the program's Rebuild. -/
namespace Go.Proofs.Ytjokbjmfnidmjaa
open Go.RowKit

theorem rebF_len {out : List UInt8} (h : 184 ≤ out.length) (x : Bk) : (rebF out x).length = out.length := by
  unfold rebF
  split
  · rfl
  · exact putB_len h _
theorem rebs_len : ∀ (l : List Bk) {out : List UInt8}, 184 ≤ out.length → (l.foldl rebF out).length = out.length
  | [], _, _ => rfl
  | x :: r, out, h => by
    rw [List.foldl_cons, rebs_len r (by rw [rebF_len h]; exact h), rebF_len h]

theorem tch_cell {S : Nat → Prop} {w w' : World} (h : Tch S w w') {b j : Nat} {v : Value} (hc : w.cell? ⟨b, j, none⟩ = some v) (hb : b < w.heap.size) (hn : ¬ S b) : w'.cell? ⟨b, j, none⟩ = some v :=
  (World.cell?_of_block (w := w) (a := ⟨b, j, none⟩) (h.block b hb hn)).trans hc

set_option maxRecDepth 100000 in
set_option maxHeartbeats 2000000 in
theorem rebuildC : RebuildC := by
  intro w g base cap c A bs y h hb hl hy
  cases hw : walkB bs with
  | none =>
    obtain rfl : none = y := by rw [← hy]; unfold rebuildB; rw [hw]; rfl
    have hW := walkC w g base cap c A bs _ h hb hl hw
    dsimp only [BlksTold, Option.isSome, Option.getD, errV] at hW
    dsimp only [Done, errV]
    have HW := Lib.hid hW
    clear hW hw hy h hb
    go_enter Try.func12, Try.ntmps12
    go_wp2_with fail
    with_reducible refine HW.out.mono ?_
    rintro e w2 ⟨A', c', rfl, _, hb2⟩
    have HB2 := Lib.hid hb2
    clear hb2
    go_wp2
    go_ret
    exact ⟨rfl, HB2.out⟩
  | some l =>
    obtain ⟨h184, hmem⟩ := walkB_mem hw
    obtain ⟨z, hz⟩ : ∃ z, List.replicate 184 (0 : UInt8) ++ bs.drop 184 = z := ⟨_, rfl⟩
    have hzl : z.length = bs.length := by rw [← hz, List.length_append, List.length_replicate, List.length_drop]; omega
    obtain rfl : some (l.foldl rebF z) = y := by rw [← hy, ← hz]; unfold rebuildB; rw [hw]; rfl
    have hW := walkC w g base cap c A bs _ h hb hl hw
    dsimp only [BlksTold, Option.isSome, Option.getD, errV] at hW
    dsimp only [Done, errV]
    have HCL := Lib.hid (fun (W : World) (hB : Below w.heap.size w W) => lclear_yes (h.below hB) hb hl h184 z hz)
    have HW := Lib.hid hW
    have HMEM := Lib.hid hmem
    have HAR := Lib.hid h
    have HBASE := Lib.hid hb
    have HZL := Lib.hid hzl
    obtain ⟨B0, hB0⟩ : ∃ B0, w.heap.size = B0 := ⟨_, rfl⟩
    have HB0 := Lib.hid hB0
    clear hW hw hy h hb hz hmem hzl hB0
    go_enter Try.func12, Try.ntmps12
    go_wp2_with fail
    with_reducible refine HW.out.mono ?_
    rintro e w2 ⟨A2, c2, rfl, ho2, hb2⟩
    have hcl : l.length ≤ c2 ∧ c2 ≤ 9223372036854775807 := by
      rcases ho2.2 with ⟨h', h0⟩ | ⟨_, _, _, h', _, _, h1, h2, _⟩
      · injection h' with _ _ e; rw [h0, e]; omega
      · injection h' with _ _ e; unfold maxLen at h2; omega
    have HO2 := Lib.hid ho2
    have HB2 := Lib.hid hb2
    have HAR2 := Lib.hid (HAR.out.below hb2)
    have HCL2 := Lib.hid (HCL.out w2 hb2)
    clear hb2 ho2 HW HCL
    go_wp2_with fail
    refine HCL2.out.mono ?_
    rintro e w3 ⟨rfl, hbe⟩
    have HBE := Lib.hid hbe
    clear hbe HCL2
    go_wp2
    go_loopw [19] (fun t wr => ∃ j : Nat, t = .int .i64 (j : Int) ∧ j ≤ l.length ∧ Became 85 g base cap A ((l.take j).foldl rebF z) w2 wr) (fun t _ => l.length - (intOf t).toNat)
    case atStart => exact ⟨0, rfl, Nat.zero_le _, HBE.out⟩
    case round =>
      obtain ⟨j, rfl, hj, hbe⟩ := hrel
      by_cases hlt : j < l.length
      · obtain ⟨x, hx⟩ : ∃ x, l[j]? = some x := ⟨l[j], List.getElem?_eq_getElem hlt⟩
        obtain ⟨b, o, rfl, hbb, hc⟩ := own_bks HO2.out rfl (by omega)
        have hbB : B0 ≤ b := by have := (HO2.out.lt b rfl).1; have := HB0.out; omega
        have hnf : ¬ foot g A b := fun hf => by
          have h1 : b < w.heap.size := HAR.out.foot_lt hf
          have := HB0.out
          omega
        obtain ⟨p0, p1, p2⟩ := hc j x hx
        have hg := HMEM.out x (List.mem_of_getElem? hx)
        obtain ⟨_, _, _, q3, _⟩ := getB_some hg
        obtain ⟨out, hout⟩ : ∃ out, (l.take j).foldl rebF z = out := ⟨_, rfl⟩
        have hol : out.length = bs.length := by rw [← hout, rebs_len _ (by have := HZL.out; omega)]; exact HZL.out
        have hnext : (l.take (j + 1)).foldl rebF z = rebF out x := by
          rw [List.take_add_one, hx, List.foldl_append, hout]; rfl
        rw [hout] at hbe
        have htc : Tch (foot g A) w2 wr := by obtain ⟨_, _, _, t, _⟩ := hbe; exact t
        have r0 := tch_cell htc p0 hbb hnf
        have r1 := tch_cell htc p1 hbb hnf
        have r2 := tch_cell htc p2 hbb hnf
        obtain ⟨xo, xs, xu⟩ := x
        dsimp only at p0 p1 p2 q3 r0 r1 r2
        have hq := (isSz_iff _).1 (getB_some hg).2.2.2.2.1
        dsimp only at hq
        obtain ⟨w4, hw4⟩ : ∃ w4, wr.alloc (.cells #[.int .i64 (xo : Int), .int .i64 (xs : Int), .bool xu] 47) = w4 := ⟨_, rfl⟩
        have hb4 : Below wr.heap.size wr w4 := by rw [← hw4]; exact (Below.refl _ _).alloc (Nat.le_refl _) _
        have n4 : w4.heap[wr.heap.size]? = some (.cells #[.int .i64 (xo : Int), .int .i64 (xs : Int), .bool xu] 47 (0, 0)) := by rw [← hw4]; exact heap_alloc_new wr _
        obtain ⟨⟨d0, d1, d2⟩, _⟩ := blk_cells n4
        have HBE4 := Lib.hid (became_below hbe hb4)
        have HW4 := Lib.hid hw4
        have HP := Lib.hid (became_put HBE4.out HBASE.out (by rw [hol]; exact hl) (xo : Int) (by omega))
        cases xu with
        | true =>
          have HN : Hid ((l.take (j + 1)).foldl rebF z = out) := hnext
          clear hnext hx hc hbe hout htc hg p0 p1 p2 hb4 n4 HP hw4 HAR HAR2
          go_wp2_with (first | (rw [HW4.out]) | fail)
          go_roundw
          case rel => exact ⟨j + 1, by go_num, by omega, by rw [HN.out]; exact HBE4.out⟩
          case measure => simp only [intOf]; omega
        | false =>
          have HN : Hid ((l.take (j + 1)).foldl rebF z = (putB out (xo : Int)).getD out) := hnext
          clear hnext hx hc hbe hout htc hg p0 p1 p2 hb4 n4 hw4 HAR HAR2
          go_wp2_with (first | (rw [HW4.out]) | fail)
          refine HP.out.mono ?_
          rintro e w5 ⟨⟨v, rfl⟩, hbe5⟩
          have HBE5 := Lib.hid hbe5
          clear hbe5 HP
          go_wp2
          go_roundw
          case rel => exact ⟨j + 1, by go_num, by omega, by rw [HN.out]; exact HBE5.out⟩
          case measure => simp only [intOf]; omega
      · obtain hjl : j = l.length := by omega
        rw [hjl, List.take_length] at hbe
        have HF := Lib.hid (hbe.after HB2.out)
        clear hbe hjl
        go_wp2
        go_ret
        exact ⟨rfl, HF.out⟩
end Go.Proofs.Ytjokbjmfnidmjaa

/- Layer 10's laws: the head (the document's example). -/
namespace Go.Proofs.Ytjokbjmfnidmjaa
open Go.RowKit

theorem up10_bytes : ∃ z o1 o2 : List UInt8, List.replicate 280 (0 : UInt8) = z ∧ z.length = 280 ∧ o1.length = 280 ∧ o2.length = 280 ∧ findV z 32 = .tuple #[.int .i64 0, .nilIface] ∧ setB z 184 96 false = some o1 ∧ rebuildB o1 = some o2 ∧ findV o2 48 = .tuple #[.int .i64 184, .nilIface] := by
  have hzl : (List.replicate 280 (0 : UInt8)).length = 280 := List.length_replicate
  have hz0 : ∀ p, p + 8 ≤ 184 → p % 8 = 0 → wordN (List.replicate 280 (0 : UInt8)) p = 0 := fun p hp _ => by
    have := wordN_zeros [] 280 p (by omega)
    rwa [List.append_nil] at this
  generalize List.replicate 280 (0 : UInt8) = z at *
  have h0 : Lists z [] (fun _ => []) := lists_none (by omega) (by omega) ⟨fun x hx => (by cases hx), fun x hx => (by cases hx)⟩ hz0
  have hs := setB_of z ⟨184, 96, false⟩ (by decide) (by decide) (by rw [hzl]; decide) (by decide)
  have hg := setT_at (bs := z) (x := ⟨184, 96, false⟩) (by decide) (by decide) (by rw [hzl]; decide) (by decide)
  have hl := setT_length (bs := z) (x := ⟨184, 96, false⟩) (by decide) (by rw [hzl]; decide)
  rw [hzl] at hl
  generalize setT z ⟨184, 96, false⟩ = o1 at *
  have hw : walkB o1 = some [⟨184, 96, false⟩] := walkB_tile (by rw [hl]; exact ⟨rfl, by decide, rfl⟩) (fun x hx => by rw [List.mem_singleton] at hx; subst hx; exact hg)
  obtain ⟨o2, hr, hL, hl2, _⟩ := rebuildB_lists hw (by omega)
  refine ⟨z, o1, o2, rfl, hzl, hl, hl2.trans hl, ?_, hs, hr, ?_⟩
  · obtain ⟨o, e, hh⟩ := findF_spec h0 (fun c _ => Nat.zero_le _) 32 22 0 (by omega)
    have e0 : o = 0 := by
      rcases hh with ⟨h, _⟩ | ⟨d, _, _, h, _⟩
      · exact h
      · cases h
    have c0 : classI 32 = 0 := by decide
    have ef : findB z 32 = some 0 := by
      unfold findB
      rw [c0]
      rw [e0] at e
      exact e
    unfold findV
    rw [if_pos (by decide), ef]
    rfl
  · obtain ⟨o, e, hh⟩ := findF_spec hL (fun c _ => by unfold freeL; rw [List.length_map]; exact Nat.le_trans (List.length_filter_le _ _) (by simp)) 48 21 1 (by omega)
    have hsz : szB o2 184 = 96 := szB_of (x := ⟨184, 96, false⟩) (hL.st.at_ ⟨184, 96, false⟩ (by simp))
    have e0 : o = 184 := by
      rcases hh with ⟨_, h⟩ | ⟨d, _, _, h, _⟩
      · have := h 4 (by omega) (by omega) 184 (mem_freeL (x := ⟨184, 96, false⟩) (by simp) rfl (by decide))
        rw [hsz] at this
        exact absurd this (by decide)
      · obtain ⟨x, hx, hx2, _⟩ := freeL_mem h
        rw [List.mem_singleton] at hx
        subst hx
        exact hx2.symm
    have c0 : classI 48 = 1 := by decide
    have ef : findB o2 48 = some 184 := by
      unfold findB
      rw [c0]
      rw [e0] at e
      exact e
    unfold findV
    rw [if_pos (by decide), ef]
    rfl

set_option maxRecDepth 100000 in
set_option maxHeartbeats 2000000 in
theorem up10_any (HS : SetC) (HF : FindC) (HR : RebuildC) (w : World) :
    Calls Try.prog 5 #[] w fun e w' => e = .returned (.bool true) ∧ Below w.heap.size w w' := by
  obtain ⟨z, o1, o2, hz, hzl, l1, l2, f1', p1, p2, f2'⟩ := up10_bytes
  have HMK : ∀ W : World, (Instr.makeSlice 24 (.int .i64 280) (.int .i64 280)).run Try.prog W = .ok (.slice (some ⟨W.heap.size, 0, none⟩) 280 280) (W.alloc (.cells (rowB z) 5)) := run_mk0 280 (by omega) z hz
  have f1 : Fill (w.alloc (.cells (rowB z) 5)) w.heap.size 5 z := Fill.made w _ _
  have b1 : Below w.heap.size w (w.alloc (.cells (rowB z) 5)) := (Below.refl _ _).alloc (Nat.le_refl _) _
  have hm := arena_any (w.alloc (.cells (rowB z) 5)) 16 1024 (some ⟨w.heap.size, 0, none⟩) 280 z f1.reads (by omega) (by omega) (by omega) (by omega) (by omega)
  rw [hzl] at hm
  have HM := Lib.hid hm
  have HB1 := Lib.hid b1
  have HLN := Lib.hid (And.intro hzl (And.intro l1 l2))
  have H1 := Lib.hid p1
  have H2 := Lib.hid p2
  have F1 := Lib.hid f1'
  have F2 := Lib.hid f2'
  have HS := Lib.hid HS
  have HF := Lib.hid HF
  have HR := Lib.hid HR
  clear hz hzl l1 l2 p1 p2 f1' f2' f1 b1 hm
  go_enter Try.func5, Try.ntmps5
  go_wp2_with fail
  refine HM.out.mono ?_
  rintro e w1 hmade
  obtain ⟨g, A, c, rfl, hst⟩ := St.made hmade
  have HST := Lib.hid hst
  have HBB := Lib.hid HB1.out
  clear hmade hst HM HMK HB1
  generalize w.alloc (.cells (rowB z) 5) = wb at *
  go_wp2_with fail
  refine (HF.out w1 g 16 1024 c A z 32 HST.out.ar (by omega) (by rw [HLN.out.1]; omega) (by omega)).mono ?_
  rintro e w2 ⟨rfl, hb⟩
  have HST2 := Lib.hid (HST.out.below hb)
  clear hb HST
  rw [F1.out]
  go_wp2_with fail
  refine (HS.out w2 g 16 1024 c A z 184 96 false _ HST2.out.ar (by omega) (by rw [HLN.out.1]; omega) (by omega) (by omega) H1.out).mono ?_
  rintro e w3 ⟨rfl, hbe⟩
  obtain ⟨A3, c3, hst3⟩ := HST2.out.became hbe
  have HST3 := Lib.hid hst3
  clear hbe hst3 HST2
  dsimp only [errV]
  go_wp2_with fail
  refine (HR.out w3 g 16 1024 c3 A3 o1 _ HST3.out.ar (by omega) (by rw [HLN.out.2.1]; omega) H2.out).mono ?_
  rintro e w4 ⟨rfl, hbe⟩
  obtain ⟨A4, c4, hst4⟩ := HST3.out.became hbe
  have HST4 := Lib.hid hst4
  clear hbe hst4 HST3
  dsimp only [errV]
  go_wp2_with fail
  refine (HF.out w4 g 16 1024 c4 A4 o2 48 HST4.out.ar (by omega) (by rw [HLN.out.2.2]; omega) (by omega)).mono ?_
  rintro e w5 ⟨rfl, hb⟩
  have HK := Lib.hid (HBB.out.trans ((HST4.out.below hb).bel.mono HBB.out.size))
  clear hb HST4
  rw [F2.out]
  go_wp2
  go_ret
  exact ⟨rfl, HK.out⟩
end Go.Proofs.Ytjokbjmfnidmjaa

/- The walk of FitTells. -/
namespace Go.Proofs.Ytjokbjmfnidmjaa
open Go.RowKit

theorem tail_off10 {P : Program} {ops : Array Oper} {Q : Exit → Act → World → Prop} {i B : Nat} {o : Oper} {a : Act} {w : World} {K : Act → World → Prop} (ho : ops[i]? = some o) (d : Option Tmp) (hd : o.dst = d) (hw : Region.wanted o (yielded ops a.tmps) = false) (hk : K (a.put d undef) w) : wpOp P ops Q i (fun a'' w'' => Below B w w'' ∧ K a'' w'') a w := by
  unfold wpOp
  simp only [ho]
  rw [if_neg (by simp [hw])]
  subst hd
  exact ⟨Below.refl _ _, hk⟩
theorem conv10 {w : World} {B n : Nat} {A : Option Addr} {bs : List UInt8} (h : Rd w B A n bs) (c : Nat) (x : LaterB B w) : (convert 24 9 (.slice A n c)).run Try.prog x.val = .ok (.string (strB bs)) x.val := conv_rd (h.below x.ext)
theorem rebuildB_length {bs out : List UInt8} (h : rebuildB bs = some out) (hl : bs.length ≤ 16384) : out.length = bs.length := by
  cases hw : walkB bs with
  | none => unfold rebuildB at h; rw [hw] at h; cases h
  | some l =>
    obtain ⟨o, h1, _, h2, _⟩ := rebuildB_lists hw hl
    rw [h] at h1
    injection h1 with h1
    rw [h1]; exact h2
/-- The slice lies in no block of the arena's. -/
def NoFoot (n g : Nat) (A A8 : Option Addr) : Prop := ∀ a, A8 = some a → 0 < n → ¬ foot g A a.block
/-- What an arena's other bytes leave as it was. -/
def Keeps_ (g : Nat) (A A6 : Option Addr) (W W' : World) : Prop := W.heap.size ≤ W'.heap.size ∧ ∀ k, k < W.heap.size → ¬ foot g A k → W'.heap[k]? = W.heap[k]? ∧ ¬ foot g A6 k
section
variable {wB W W' : World} {g base cap c : Nat} {A : Option Addr} {bs out : List UInt8} {L : List (Nat × Obj)}
theorem St.became_keep (h : St wB W g base cap A c bs L) (hb : Became 85 g base cap A out W W') : ∃ A' c', St wB W' g base cap A' c' out [] ∧ Keeps_ g A A' W W' := by
  obtain ⟨A', c', har, ht, hA⟩ := hb
  have hbl : Below wB.heap.size wB W' := h.bel.trans (ht.below (fun k hk => by
    rcases hk with rfl | ⟨a, e, rfl⟩
    · exact h.gB
    · exact h.aB a e) h.size)
  refine ⟨A', c', ⟨hbl, har, h.gB, fun a ha => ?_, fun p hp => by cases hp⟩, ht.size, fun k hk hn => ⟨ht.block k hk hn, fun hf => ?_⟩⟩
  · rcases hA with hA | hA
    · exact h.aB a (hA ▸ ha)
    · exact Nat.le_trans h.size (hA a ha)
  · rcases hf with rfl | ⟨a, e, rfl⟩
    · exact hn (.inl rfl)
    · rcases hA with hA | hA
      · exact hn (.inr ⟨a, hA ▸ e, rfl⟩)
      · have := hA a e; omega
theorem NoFoot.rd {A8 A6 : Option Addr} {n : Nat} {cs : List UInt8} (h : NoFoot n g A A8) (r : Rd W W.heap.size A8 n cs) (hk : Keeps_ g A A6 W W') : Rd W' W'.heap.size A8 n cs := by
  refine ⟨r.1, fun hn => ?_⟩
  obtain ⟨b, off, e, hb, hc⟩ := r.2 hn
  have h1 := h ⟨b, off, none⟩ e hn
  exact ⟨b, off, e, Nat.lt_of_lt_of_le hb hk.1, fun j u hu => (World.cell?_of_block (w := W) (a := ⟨b, off + j, none⟩) (hk.2 b hb h1).1).trans (hc j u hu)⟩
theorem NoFoot.next {A8 A6 : Option Addr} {n : Nat} {cs : List UInt8} (h : NoFoot n g A A8) (r : Rd W W.heap.size A8 n cs) (hk : Keeps_ g A A6 W W') : NoFoot n g A6 A8 := fun a e hn => by
  obtain ⟨b, off, e', hb, _⟩ := r.2 hn
  rw [e'] at e
  injection e with e
  subst e
  exact (hk.2 b hb (h ⟨b, off, none⟩ e' hn)).2
end

set_option maxRecDepth 100000 in
set_option maxHeartbeats 16000000 in
theorem ft_main (HS : SetC) (HF : FindC) (HR : RebuildC) (w : World) (n : Nat) (hn : n ≤ 2000) (A1 : Option Addr) (k1 : Nat) (l : List La) (hL : LaRd w w.heap.size A1 l) (hl : l.length ≤ 60) (sz : Int) (hsz : -9223372036854775808 ≤ sz ∧ sz ≤ 9223372036854775807) :
    Calls Try.prog 3 #[.int .i64 (n : Int), .slice A1 l.length k1, .int .i64 sz] w fun e w' => e = .returned (.bool true) ∧ Below w.heap.size w w' := by
  obtain ⟨ll, hll⟩ : ∃ ll, l.length = ll := ⟨_, rfl⟩
  have s0 : decide ((n : Int) < 0) = false := decide_eq_false (by omega)
  have s1 : decide ((2000 : Int) < (n : Int)) = false := decide_eq_false (by omega)
  have s2 : decide ((60 : Int) < (ll : Int)) = false := decide_eq_false (by omega)
  have hlb := fun (W : World) (hb : Below w.heap.size w W) => lbytes_any W n hn A1 k1 l (fun h0 => by
    obtain ⟨b, o, e, h1, hc⟩ := (hL.below hb) h0
    exact ⟨b, o, e, Nat.lt_of_lt_of_le h1 hb.size, hc⟩) (by omega)
  rw [hll] at hlb ⊢
  have HLB := Lib.hid hlb
  have HS := Lib.hid HS
  have HF := Lib.hid HF
  have HR := Lib.hid HR
  have HUP := Lib.hid (up10_any HS.out HF.out HR.out)
  clear hll hL hl hlb
  go_enter Try.func3, Try.ntmps3
  go_wp2_with fail
  refine (HUP.out _).mono ?_
  rintro e w1 ⟨rfl, hb⟩
  have HB1 := Lib.hid hb
  clear HUP hb
  go_wp2_with fail
  refine (HLB.out w1 HB1.out).mono ?_
  rintro e wb ⟨A3, c3, bs, rfl, hr, hc3, hA3, hb⟩
  have hbn := hr.1
  have hma := arena_any wb 32 16384 A3 c3 bs (by rw [hbn]; exact hr) (by omega) (by omega) (by omega) (by omega) (by omega)
  rw [hbn] at hma
  have HMA := Lib.hid hma
  have HR3 := Lib.hid hr
  have HB2 := Lib.hid (HB1.out.trans (hb.mono HB1.out.size))
  have HN3 := Lib.hid hbn
  clear hr hb HLB HB1 s0 s1 s2 hma hbn
  go_wp2_with fail
  refine HMA.out.mono ?_
  rintro e w3 hmade
  obtain ⟨g, A, c, rfl, hst⟩ := St.made hmade
  have HNF : Hid (NoFoot n g A A3) := fun a e h0 hf => by
    obtain ⟨b, off, e', hb, _⟩ := HR3.out.2 h0
    rw [e'] at e
    injection e with e
    subst e
    rcases hf with hf | ⟨a, e2, hf⟩
    · have := hst.gB; dsimp only at hf; omega
    · have := hst.aB a e2; dsimp only at hf; omega
  have HST := Lib.hid hst
  have HR3' := Lib.hid (hst.rd HR3.out)
  clear hmade hst HMA HR3
  go_wp2
  go_loopw [8, 10] (fun q i wr => ∃ (j : Nat) (A8 : Option Addr) (c8 : Nat) (bs : List UInt8) (A : Option Addr) (c : Nat), q = .slice A8 n c8 ∧ i = .int .i64 (j : Int) ∧ j ≤ 2 ∧ Rd wr wr.heap.size A8 n bs ∧ n ≤ c8 ∧ (A8 = none → c8 = 0) ∧ NoFoot n g A A8 ∧ bs.length = n ∧ St wb wr g 32 16384 A c bs []) (fun _ i _ => 2 - (intOf i).toNat)
  case atStart => exact ⟨0, A3, c3, bs, A, c, rfl, rfl, by omega, HR3'.out, hc3, hA3, HNF.out, HN3.out, HST.out⟩
  case round =>
    obtain ⟨j, A8, c8, bs, A, c, rfl, rfl, hj, hr, hc8, hA8, hnf, hbn, hst⟩ := hrel
    by_cases hlt : j < 2
    · have hji : (j : Int) < 2 := by omega
      obtain ⟨y, hy⟩ : ∃ y, rebuildB bs = y := ⟨_, rfl⟩
      have HYL : Hid (∀ o, y = some o → o.length = n) := fun o e => by rw [← hbn]; exact rebuildB_length (hy.trans e) (by omega)
      have HY := Lib.hid hy
      have HN := Lib.hid hbn
      have HA8 := Lib.hid hA8
      have HNF5 := Lib.hid hnf
      have hfi := HF.out wr g 32 16384 c A bs sz hst.ar (by omega) (by omega) hsz
      have HR0 := Lib.hid hr
      have HST0 := Lib.hid hst
      clear hr hA8 hnf hbn hst hy HNF HST HR3' HN3
      cases hs : isSz sz with
      | false =>
        have hv : findV bs sz = .tuple #[.int .i64 0, .iface 60 (.int .i64 1)] := by unfold findV; rw [if_neg (by simp [hs])]; rfl
        rw [hv] at hfi
        have HFi := Lib.hid hfi
        have hc0 : classI sz = -1 := by unfold classI; rw [if_pos hs]
        have HCS := Lib.hid (fun W => rclass_any W sz hsz (-1) hc0)
        clear hfi hv hs hc0
        go_wp2_with fail
        refine HFi.out.mono ?_
        rintro e w5 ⟨rfl, hb⟩
        have HST5 := Lib.hid (HST0.out.below hb)
        have HR5 := Lib.hid ((HR0.out.below hb).more hb.size)
        clear hb HFi HST0 HR0
        go_wp2_with fail
        refine (HCS.out _).mono ?_
        rintro e w6 ⟨rfl, rfl⟩
        go_wp2_with fail
        refine (code_err _ 1 (by omega) (by omega)).mono ?_
        rintro e w6 ⟨rfl, rfl⟩
        clear HCS
        cases hy : y with
        | none =>
          subst hy
          have HReb := Lib.hid (HR.out w5 g 32 16384 c A bs _ HST5.out.ar (by omega) (by rw [HN.out]; omega) HY.out)
          go_wp2_with fail
          refine HReb.out.mono ?_
          rintro e w6 ⟨rfl, hb⟩
          have hst6 := HST5.out.below hb
          have hr6 : Rd w6 w6.heap.size A8 n bs := (HR5.out.below hb).more hb.size
          have hrb := rrebuild_any w6 (fun k => 0 < n → ¬ foot g A k) (fun k hk _ hf => by have := hst6.ar.foot_lt hf; omega) A8 c8 bs n HN.out hr6 hc8 ⟨HA8.out, HNF5.out⟩ (by omega) _ HY.out
          dsimp only [Option.getD, Option.isSome] at hrb
          have HRB := Lib.hid hrb
          have HST6 := Lib.hid hst6
          clear hrb hst6 hr6 HReb hb
          dsimp only [errV]
          go_wp2_with fail
          refine HRB.out.mono ?_
          rintro e w7 ⟨A14, c14, rfl, r14, hc14, hA14, hb⟩
          obtain ⟨wd, hwd⟩ : ∃ wd, w7.drew = wd := ⟨_, rfl⟩
          have bd : Below w7.heap.size w7 wd := by rw [← hwd]; exact (Below.refl _ _).drew
          have hst7 := (HST6.out.below hb).below bd
          have HR14 := Lib.hid ((r14.below bd).more bd.size)
          have HST7 := Lib.hid hst7
          have HBY := Lib.hid (bytes_any hst7.ar (by rw [HN.out]; omega) (by omega))
          have HWD := Lib.hid hwd
          have HA14 := Lib.hid hA14
          clear r14 hb hwd bd hst7 hA14 HRB HST6
          go_wp2_with fail
          refine wp_region_tail wd.heap.size [([0, 1, 2, 3, 4, 5, 6, 7, 8], 9), ([10, 11, 12, 13, 14, 17, 18], 15)] [16, 19, 20] [] (by kernel_rfl) (by kernel_rfl) (by kernel_rfl) (fun _ _ _ _ _ h => h) ?_
          rw [HWD.out]
          refine tail_cons (l := ?segAZN) ?hsegAZN ?_
          case hsegAZN => simp only [pick, List.getElem?_toArray, List.getElem?_cons_succ, List.getElem?_cons_zero]; rfl
          repeat (go_big_quiet_step (fail))
          refine wpQuiet_nil ?_
          refine tail_call2 (vs := #[.iface 60 (.int .i64 3)]) Try.call10 rfl rfl rfl (R := fun r w' => r = .int .i64 3 ∧ w' = wd) ((code_err wd 3 (by omega) (by omega)).mono ?_) ?_
          · rintro e w' ⟨rfl, rfl⟩
            exact ⟨_, rfl, Below.refl _ _, rfl, rfl⟩
          rintro r w9 _ ⟨rfl, hw9⟩
          have hw9' := hw9.symm
          subst hw9'
          refine ⟨wd.heap.size, Nat.le_refl _, ?_⟩
          have qb := conv10 HR14.out
          refine tail_cons (l := ?segBZN) ?hsegBZN ?_
          case hsegBZN => simp only [pick, List.getElem?_toArray, List.getElem?_cons_succ, List.getElem?_cons_zero]; rfl
          simp only [Act.put, List.setIfInBounds_toArray, List.set_cons_zero, List.set_cons_succ]
          repeat (go_big_quiet_step (fail))
          refine wpQuiet_nil ?_
          clear qb
          refine tail_call2 (vs := #[.pointer (some ⟨g, 0, none⟩)]) Try.call14 rfl rfl rfl (R := fun r w' => ∃ A c, r = .slice A bs.length c ∧ Rd w' w'.heap.size A bs.length bs ∧ Below wd.heap.size wd w') (HBY.out.mono ?_) ?_
          · rintro e w' ⟨A', c', rfl, ho, hb⟩
            exact ⟨_, rfl, hb, A', c', rfl, (own_facts ho).1, hb⟩
          rintro r w13 _ ⟨A13, c13, rfl, r13, b13⟩
          refine ⟨w13.heap.size, b13.size, ?_⟩
          have qa := conv10 r13
          refine tail_last (l := ?segCZN) (t := []) ?hsegCZN ?htlCZN ?_
          case hsegCZN => simp only [pick, List.getElem?_toArray, List.getElem?_cons_succ, List.getElem?_cons_zero]; rfl
          case htlCZN => rfl
          simp only [Act.put, List.setIfInBounds_toArray, List.set_cons_zero, List.set_cons_succ]
          repeat (go_big_quiet_step (fail))
          refine wpQuiet_nil ?_
          have HR15 := Lib.hid ((HR14.out.below b13).more b13.size)
          have HST15 := Lib.hid (HST7.out.below b13)
          clear qa r13 b13 HR14 HST7 HBY
          go_wp2
          go_roundw
          case rel => exact ⟨j + 1, A14, c14, bs, A, c, rfl, by go_num, by omega, HR15.out, hc14, HA14.out.1, HA14.out.2, HN.out, HST15.out⟩
          case measure => simp only [intOf]; omega
        | some y_ =>
          subst hy
          have HReb := Lib.hid (HR.out w5 g 32 16384 c A bs _ HST5.out.ar (by omega) (by rw [HN.out]; omega) HY.out)
          go_wp2_with fail
          refine HReb.out.mono ?_
          rintro e w6 ⟨rfl, hbe⟩
          obtain ⟨A6, c6, hst6, hkeep⟩ := HST5.out.became_keep hbe
          have hr6 : Rd w6 w6.heap.size A8 n bs := HNF5.out.rd HR5.out hkeep
          have hno : y_.length = n := (HYL.out _ rfl)
          have hrb := rrebuild_any w6 (fun k => 0 < n → ¬ foot g A6 k) (fun k hk _ hf => by have := hst6.ar.foot_lt hf; omega) A8 c8 bs n HN.out hr6 hc8 ⟨HA8.out, HNF5.out.next HR5.out hkeep⟩ (by omega) _ HY.out
          dsimp only [Option.getD, Option.isSome] at hrb
          have HRB := Lib.hid hrb
          have HST6 := Lib.hid hst6
          clear hrb hst6 hr6 HReb hbe hkeep hno
          dsimp only [errV]
          go_wp2_with fail
          refine HRB.out.mono ?_
          rintro e w7 ⟨A14, c14, rfl, r14, hc14, hA14, hb⟩
          obtain ⟨wd, hwd⟩ : ∃ wd, w7.drew = wd := ⟨_, rfl⟩
          have bd : Below w7.heap.size w7 wd := by rw [← hwd]; exact (Below.refl _ _).drew
          have hst7 := (HST6.out.below hb).below bd
          have HR14 := Lib.hid ((r14.below bd).more bd.size)
          have HST7 := Lib.hid hst7
          have HBY := Lib.hid (bytes_any hst7.ar (by rw [HYL.out _ rfl]; omega) (by omega))
          have HWD := Lib.hid hwd
          have HA14 := Lib.hid hA14
          clear r14 hb hwd bd hst7 hA14 HRB HST6
          go_wp2_with fail
          refine wp_region_tail wd.heap.size [([0, 1, 2, 3, 4, 5, 6, 7, 8], 9), ([10, 11, 12, 13, 14, 17, 18], 15)] [16, 19, 20] [] (by kernel_rfl) (by kernel_rfl) (by kernel_rfl) (fun _ _ _ _ _ h => h) ?_
          rw [HWD.out]
          refine tail_cons (l := ?segAZS) ?hsegAZS ?_
          case hsegAZS => simp only [pick, List.getElem?_toArray, List.getElem?_cons_succ, List.getElem?_cons_zero]; rfl
          repeat (go_big_quiet_step (fail))
          refine wpQuiet_nil ?_
          refine tail_off10 rfl (some 98) rfl rfl ⟨wd.heap.size, Nat.le_refl _, ?_⟩
          have qb := conv10 HR14.out
          refine tail_cons (l := ?segBZS) ?hsegBZS ?_
          case hsegBZS => simp only [pick, List.getElem?_toArray, List.getElem?_cons_succ, List.getElem?_cons_zero]; rfl
          simp only [Act.put, List.setIfInBounds_toArray, List.set_cons_zero, List.set_cons_succ]
          repeat (go_big_quiet_step (fail))
          refine wpQuiet_nil ?_
          clear qb
          refine tail_call2 (vs := #[.pointer (some ⟨g, 0, none⟩)]) Try.call14 rfl rfl rfl (R := fun r w' => ∃ A c, r = .slice A y_.length c ∧ Rd w' w'.heap.size A y_.length y_ ∧ Below wd.heap.size wd w') (HBY.out.mono ?_) ?_
          · rintro e w' ⟨A', c', rfl, ho, hb⟩
            exact ⟨_, rfl, hb, A', c', rfl, (own_facts ho).1, hb⟩
          rintro r w13 _ ⟨A13, c13, rfl, r13, b13⟩
          refine ⟨w13.heap.size, b13.size, ?_⟩
          have qa := conv10 r13
          refine tail_last (l := ?segCZS) (t := []) ?hsegCZS ?htlCZS ?_
          case hsegCZS => simp only [pick, List.getElem?_toArray, List.getElem?_cons_succ, List.getElem?_cons_zero]; rfl
          case htlCZS => rfl
          simp only [Act.put, List.setIfInBounds_toArray, List.set_cons_zero, List.set_cons_succ]
          repeat (go_big_quiet_step (fail))
          refine wpQuiet_nil ?_
          have HR15 := Lib.hid ((HR14.out.below b13).more b13.size)
          have HST15 := Lib.hid (HST7.out.below b13)
          clear qa r13 b13 HR14 HST7 HBY
          go_wp2
          go_roundw
          case rel => exact ⟨j + 1, A14, c14, y_, A6, c6, rfl, by go_num, by omega, HR15.out, hc14, HA14.out.1, HA14.out.2, HYL.out _ rfl, HST15.out⟩
          case measure => simp only [intOf]; omega
      | true =>
        obtain ⟨s, rfl⟩ : ∃ s : Nat, sz = (s : Int) := ⟨sz.toNat, by have := (isSz_iff sz).1 hs; omega⟩
        obtain ⟨cs, hcs⟩ : ∃ cs : Nat, classI (s : Int) = (cs : Int) := ⟨(classI (s : Int)).toNat, by
          have h2 : ¬ classI (s : Int) < 0 := by rw [classI_neg]; simp [hs]
          omega⟩
        have HCS := Lib.hid (fun W => rclass_any W (s : Int) hsz (cs : Int) hcs)
        have HSZ := Lib.hid hs
        cases hf : findB bs (s : Int) with
        | none =>
          have hv : findV bs (s : Int) = .tuple #[.int .i64 ((0 : Nat) : Int), .iface 60 (.int .i64 3)] := by unfold findV; rw [if_pos hs, hf]; rfl
          rw [hv] at hfi
          have HFi := Lib.hid hfi
          have HFF := Lib.hid hf
          clear hfi hv hs hcs hf
          go_wp2_with fail
          refine HFi.out.mono ?_
          rintro e w5 ⟨rfl, hb⟩
          have hst5 := HST0.out.below hb
          have hr5 := (HR0.out.below hb).more hb.size
          have hrf := rfind_any w5 A8 c8 bs (by rw [HN.out]; exact hr5) (by rw [HN.out]; exact hc8) (by rw [HN.out]; omega) s HSZ.out _ HFF.out
          rw [HN.out] at hrf
          dsimp only [Option.getD, Option.isSome] at hrf
          have HRF := Lib.hid hrf
          have HST5' := Lib.hid hst5
          have HR5' := Lib.hid hr5
          clear hb hst5 hr5 hrf HFi HST0 HR0
          go_wp2_with fail
          refine (HCS.out _).mono ?_
          rintro e w6 ⟨rfl, rfl⟩
          go_wp2_with fail
          refine HRF.out.mono ?_
          rintro e w7 ⟨rfl, hb⟩
          have HST5 := Lib.hid (HST5'.out.below hb)
          have HR5 := Lib.hid ((HR5'.out.below hb).more hb.size)
          clear hb HRF HST5' HR5' HCS
          go_wp2_with fail
          refine (code_err _ 3 (by omega) (by omega)).mono ?_
          rintro e w5 ⟨rfl, rfl⟩
          generalize w7 = w5 at *
          cases hy : y with
          | none =>
            subst hy
            have HReb := Lib.hid (HR.out w5 g 32 16384 c A bs _ HST5.out.ar (by omega) (by rw [HN.out]; omega) HY.out)
            go_wp2_with fail
            refine HReb.out.mono ?_
            rintro e w6 ⟨rfl, hb⟩
            have hst6 := HST5.out.below hb
            have hr6 : Rd w6 w6.heap.size A8 n bs := (HR5.out.below hb).more hb.size
            have hrb := rrebuild_any w6 (fun k => 0 < n → ¬ foot g A k) (fun k hk _ hf => by have := hst6.ar.foot_lt hf; omega) A8 c8 bs n HN.out hr6 hc8 ⟨HA8.out, HNF5.out⟩ (by omega) _ HY.out
            dsimp only [Option.getD, Option.isSome] at hrb
            have HRB := Lib.hid hrb
            have HST6 := Lib.hid hst6
            clear hrb hst6 hr6 HReb hb
            dsimp only [errV]
            go_wp2_with fail
            refine HRB.out.mono ?_
            rintro e w7 ⟨A14, c14, rfl, r14, hc14, hA14, hb⟩
            obtain ⟨wd, hwd⟩ : ∃ wd, w7.drew = wd := ⟨_, rfl⟩
            have bd : Below w7.heap.size w7 wd := by rw [← hwd]; exact (Below.refl _ _).drew
            have hst7 := (HST6.out.below hb).below bd
            have HR14 := Lib.hid ((r14.below bd).more bd.size)
            have HST7 := Lib.hid hst7
            have HBY := Lib.hid (bytes_any hst7.ar (by rw [HN.out]; omega) (by omega))
            have HWD := Lib.hid hwd
            have HA14 := Lib.hid hA14
            clear r14 hb hwd bd hst7 hA14 HRB HST6
            go_wp2_with fail
            refine wp_region_tail wd.heap.size [([0, 1, 2, 3, 4, 5, 6, 7, 8], 9), ([10, 11, 12, 13, 14, 17, 18], 15)] [16, 19, 20] [] (by kernel_rfl) (by kernel_rfl) (by kernel_rfl) (fun _ _ _ _ _ h => h) ?_
            rw [HWD.out]
            refine tail_cons (l := ?segANN) ?hsegANN ?_
            case hsegANN => simp only [pick, List.getElem?_toArray, List.getElem?_cons_succ, List.getElem?_cons_zero]; rfl
            repeat (go_big_quiet_step (fail))
            refine wpQuiet_nil ?_
            refine tail_call2 (vs := #[.iface 60 (.int .i64 3)]) Try.call10 rfl rfl rfl (R := fun r w' => r = .int .i64 3 ∧ w' = wd) ((code_err wd 3 (by omega) (by omega)).mono ?_) ?_
            · rintro e w' ⟨rfl, rfl⟩
              exact ⟨_, rfl, Below.refl _ _, rfl, rfl⟩
            rintro r w9 _ ⟨rfl, hw9⟩
            have hw9' := hw9.symm
            subst hw9'
            refine ⟨wd.heap.size, Nat.le_refl _, ?_⟩
            have qb := conv10 HR14.out
            refine tail_cons (l := ?segBNN) ?hsegBNN ?_
            case hsegBNN => simp only [pick, List.getElem?_toArray, List.getElem?_cons_succ, List.getElem?_cons_zero]; rfl
            simp only [Act.put, List.setIfInBounds_toArray, List.set_cons_zero, List.set_cons_succ]
            repeat (go_big_quiet_step (fail))
            refine wpQuiet_nil ?_
            clear qb
            refine tail_call2 (vs := #[.pointer (some ⟨g, 0, none⟩)]) Try.call14 rfl rfl rfl (R := fun r w' => ∃ A c, r = .slice A bs.length c ∧ Rd w' w'.heap.size A bs.length bs ∧ Below wd.heap.size wd w') (HBY.out.mono ?_) ?_
            · rintro e w' ⟨A', c', rfl, ho, hb⟩
              exact ⟨_, rfl, hb, A', c', rfl, (own_facts ho).1, hb⟩
            rintro r w13 _ ⟨A13, c13, rfl, r13, b13⟩
            refine ⟨w13.heap.size, b13.size, ?_⟩
            have qa := conv10 r13
            refine tail_last (l := ?segCNN) (t := []) ?hsegCNN ?htlCNN ?_
            case hsegCNN => simp only [pick, List.getElem?_toArray, List.getElem?_cons_succ, List.getElem?_cons_zero]; rfl
            case htlCNN => rfl
            simp only [Act.put, List.setIfInBounds_toArray, List.set_cons_zero, List.set_cons_succ]
            repeat (go_big_quiet_step (fail))
            refine wpQuiet_nil ?_
            have HR15 := Lib.hid ((HR14.out.below b13).more b13.size)
            have HST15 := Lib.hid (HST7.out.below b13)
            clear qa r13 b13 HR14 HST7 HBY
            go_wp2
            go_roundw
            case rel => exact ⟨j + 1, A14, c14, bs, A, c, rfl, by go_num, by omega, HR15.out, hc14, HA14.out.1, HA14.out.2, HN.out, HST15.out⟩
            case measure => simp only [intOf]; omega
          | some y_ =>
            subst hy
            have HReb := Lib.hid (HR.out w5 g 32 16384 c A bs _ HST5.out.ar (by omega) (by rw [HN.out]; omega) HY.out)
            go_wp2_with fail
            refine HReb.out.mono ?_
            rintro e w6 ⟨rfl, hbe⟩
            obtain ⟨A6, c6, hst6, hkeep⟩ := HST5.out.became_keep hbe
            have hr6 : Rd w6 w6.heap.size A8 n bs := HNF5.out.rd HR5.out hkeep
            have hno : y_.length = n := (HYL.out _ rfl)
            have hrb := rrebuild_any w6 (fun k => 0 < n → ¬ foot g A6 k) (fun k hk _ hf => by have := hst6.ar.foot_lt hf; omega) A8 c8 bs n HN.out hr6 hc8 ⟨HA8.out, HNF5.out.next HR5.out hkeep⟩ (by omega) _ HY.out
            dsimp only [Option.getD, Option.isSome] at hrb
            have HRB := Lib.hid hrb
            have HST6 := Lib.hid hst6
            clear hrb hst6 hr6 HReb hbe hkeep hno
            dsimp only [errV]
            go_wp2_with fail
            refine HRB.out.mono ?_
            rintro e w7 ⟨A14, c14, rfl, r14, hc14, hA14, hb⟩
            obtain ⟨wd, hwd⟩ : ∃ wd, w7.drew = wd := ⟨_, rfl⟩
            have bd : Below w7.heap.size w7 wd := by rw [← hwd]; exact (Below.refl _ _).drew
            have hst7 := (HST6.out.below hb).below bd
            have HR14 := Lib.hid ((r14.below bd).more bd.size)
            have HST7 := Lib.hid hst7
            have HBY := Lib.hid (bytes_any hst7.ar (by rw [HYL.out _ rfl]; omega) (by omega))
            have HWD := Lib.hid hwd
            have HA14 := Lib.hid hA14
            clear r14 hb hwd bd hst7 hA14 HRB HST6
            go_wp2_with fail
            refine wp_region_tail wd.heap.size [([0, 1, 2, 3, 4, 5, 6, 7, 8], 9), ([10, 11, 12, 13, 14, 17, 18], 15)] [16, 19, 20] [] (by kernel_rfl) (by kernel_rfl) (by kernel_rfl) (fun _ _ _ _ _ h => h) ?_
            rw [HWD.out]
            refine tail_cons (l := ?segANS) ?hsegANS ?_
            case hsegANS => simp only [pick, List.getElem?_toArray, List.getElem?_cons_succ, List.getElem?_cons_zero]; rfl
            repeat (go_big_quiet_step (fail))
            refine wpQuiet_nil ?_
            refine tail_off10 rfl (some 98) rfl rfl ⟨wd.heap.size, Nat.le_refl _, ?_⟩
            have qb := conv10 HR14.out
            refine tail_cons (l := ?segBNS) ?hsegBNS ?_
            case hsegBNS => simp only [pick, List.getElem?_toArray, List.getElem?_cons_succ, List.getElem?_cons_zero]; rfl
            simp only [Act.put, List.setIfInBounds_toArray, List.set_cons_zero, List.set_cons_succ]
            repeat (go_big_quiet_step (fail))
            refine wpQuiet_nil ?_
            clear qb
            refine tail_call2 (vs := #[.pointer (some ⟨g, 0, none⟩)]) Try.call14 rfl rfl rfl (R := fun r w' => ∃ A c, r = .slice A y_.length c ∧ Rd w' w'.heap.size A y_.length y_ ∧ Below wd.heap.size wd w') (HBY.out.mono ?_) ?_
            · rintro e w' ⟨A', c', rfl, ho, hb⟩
              exact ⟨_, rfl, hb, A', c', rfl, (own_facts ho).1, hb⟩
            rintro r w13 _ ⟨A13, c13, rfl, r13, b13⟩
            refine ⟨w13.heap.size, b13.size, ?_⟩
            have qa := conv10 r13
            refine tail_last (l := ?segCNS) (t := []) ?hsegCNS ?htlCNS ?_
            case hsegCNS => simp only [pick, List.getElem?_toArray, List.getElem?_cons_succ, List.getElem?_cons_zero]; rfl
            case htlCNS => rfl
            simp only [Act.put, List.setIfInBounds_toArray, List.set_cons_zero, List.set_cons_succ]
            repeat (go_big_quiet_step (fail))
            refine wpQuiet_nil ?_
            have HR15 := Lib.hid ((HR14.out.below b13).more b13.size)
            have HST15 := Lib.hid (HST7.out.below b13)
            clear qa r13 b13 HR14 HST7 HBY
            go_wp2
            go_roundw
            case rel => exact ⟨j + 1, A14, c14, y_, A6, c6, rfl, by go_num, by omega, HR15.out, hc14, HA14.out.1, HA14.out.2, HYL.out _ rfl, HST15.out⟩
            case measure => simp only [intOf]; omega
        | some o =>
          have hv : findV bs (s : Int) = .tuple #[.int .i64 (o : Int), .nilIface] := by unfold findV; rw [if_pos hs, hf]; rfl
          rw [hv] at hfi
          have HFi := Lib.hid hfi
          have HFF := Lib.hid hf
          clear hfi hv hs hcs hf
          go_wp2_with fail
          refine HFi.out.mono ?_
          rintro e w5 ⟨rfl, hb⟩
          have hst5 := HST0.out.below hb
          have hr5 := (HR0.out.below hb).more hb.size
          have hrf := rfind_any w5 A8 c8 bs (by rw [HN.out]; exact hr5) (by rw [HN.out]; exact hc8) (by rw [HN.out]; omega) s HSZ.out _ HFF.out
          rw [HN.out] at hrf
          dsimp only [Option.getD, Option.isSome] at hrf
          have HRF := Lib.hid hrf
          have HST5' := Lib.hid hst5
          have HR5' := Lib.hid hr5
          clear hb hst5 hr5 hrf HFi HST0 HR0
          go_wp2_with fail
          refine (HCS.out _).mono ?_
          rintro e w6 ⟨rfl, rfl⟩
          go_wp2_with fail
          refine HRF.out.mono ?_
          rintro e w7 ⟨rfl, hb⟩
          have HST5 := Lib.hid (HST5'.out.below hb)
          have HR5 := Lib.hid ((HR5'.out.below hb).more hb.size)
          clear hb HRF HST5' HR5' HCS
          generalize w7 = w5 at *
          cases hy : y with
          | none =>
            subst hy
            have HReb := Lib.hid (HR.out w5 g 32 16384 c A bs _ HST5.out.ar (by omega) (by rw [HN.out]; omega) HY.out)
            go_wp2_with fail
            refine HReb.out.mono ?_
            rintro e w6 ⟨rfl, hb⟩
            have hst6 := HST5.out.below hb
            have hr6 : Rd w6 w6.heap.size A8 n bs := (HR5.out.below hb).more hb.size
            have hrb := rrebuild_any w6 (fun k => 0 < n → ¬ foot g A k) (fun k hk _ hf => by have := hst6.ar.foot_lt hf; omega) A8 c8 bs n HN.out hr6 hc8 ⟨HA8.out, HNF5.out⟩ (by omega) _ HY.out
            dsimp only [Option.getD, Option.isSome] at hrb
            have HRB := Lib.hid hrb
            have HST6 := Lib.hid hst6
            clear hrb hst6 hr6 HReb hb
            dsimp only [errV]
            go_wp2_with fail
            refine HRB.out.mono ?_
            rintro e w7 ⟨A14, c14, rfl, r14, hc14, hA14, hb⟩
            obtain ⟨wd, hwd⟩ : ∃ wd, w7.drew = wd := ⟨_, rfl⟩
            have bd : Below w7.heap.size w7 wd := by rw [← hwd]; exact (Below.refl _ _).drew
            have hst7 := (HST6.out.below hb).below bd
            have HR14 := Lib.hid ((r14.below bd).more bd.size)
            have HST7 := Lib.hid hst7
            have HBY := Lib.hid (bytes_any hst7.ar (by rw [HN.out]; omega) (by omega))
            have HWD := Lib.hid hwd
            have HA14 := Lib.hid hA14
            clear r14 hb hwd bd hst7 hA14 HRB HST6
            go_wp2_with fail
            refine wp_region_tail wd.heap.size [([0, 1, 2, 3, 4, 5, 6, 7, 8], 9), ([10, 11, 12, 13, 14, 17, 18], 15)] [16, 19, 20] [] (by kernel_rfl) (by kernel_rfl) (by kernel_rfl) (fun _ _ _ _ _ h => h) ?_
            rw [HWD.out]
            refine tail_cons (l := ?segASN) ?hsegASN ?_
            case hsegASN => simp only [pick, List.getElem?_toArray, List.getElem?_cons_succ, List.getElem?_cons_zero]; rfl
            repeat (go_big_quiet_step (fail))
            refine wpQuiet_nil ?_
            refine tail_call2 (vs := #[.iface 60 (.int .i64 3)]) Try.call10 rfl rfl rfl (R := fun r w' => r = .int .i64 3 ∧ w' = wd) ((code_err wd 3 (by omega) (by omega)).mono ?_) ?_
            · rintro e w' ⟨rfl, rfl⟩
              exact ⟨_, rfl, Below.refl _ _, rfl, rfl⟩
            rintro r w9 _ ⟨rfl, hw9⟩
            have hw9' := hw9.symm
            subst hw9'
            refine ⟨wd.heap.size, Nat.le_refl _, ?_⟩
            have qb := conv10 HR14.out
            refine tail_cons (l := ?segBSN) ?hsegBSN ?_
            case hsegBSN => simp only [pick, List.getElem?_toArray, List.getElem?_cons_succ, List.getElem?_cons_zero]; rfl
            simp only [Act.put, List.setIfInBounds_toArray, List.set_cons_zero, List.set_cons_succ]
            repeat (go_big_quiet_step (fail))
            refine wpQuiet_nil ?_
            clear qb
            refine tail_call2 (vs := #[.pointer (some ⟨g, 0, none⟩)]) Try.call14 rfl rfl rfl (R := fun r w' => ∃ A c, r = .slice A bs.length c ∧ Rd w' w'.heap.size A bs.length bs ∧ Below wd.heap.size wd w') (HBY.out.mono ?_) ?_
            · rintro e w' ⟨A', c', rfl, ho, hb⟩
              exact ⟨_, rfl, hb, A', c', rfl, (own_facts ho).1, hb⟩
            rintro r w13 _ ⟨A13, c13, rfl, r13, b13⟩
            refine ⟨w13.heap.size, b13.size, ?_⟩
            have qa := conv10 r13
            refine tail_last (l := ?segCSN) (t := []) ?hsegCSN ?htlCSN ?_
            case hsegCSN => simp only [pick, List.getElem?_toArray, List.getElem?_cons_succ, List.getElem?_cons_zero]; rfl
            case htlCSN => rfl
            simp only [Act.put, List.setIfInBounds_toArray, List.set_cons_zero, List.set_cons_succ]
            repeat (go_big_quiet_step (fail))
            refine wpQuiet_nil ?_
            have HR15 := Lib.hid ((HR14.out.below b13).more b13.size)
            have HST15 := Lib.hid (HST7.out.below b13)
            clear qa r13 b13 HR14 HST7 HBY
            go_wp2
            go_roundw
            case rel => exact ⟨j + 1, A14, c14, bs, A, c, rfl, by go_num, by omega, HR15.out, hc14, HA14.out.1, HA14.out.2, HN.out, HST15.out⟩
            case measure => simp only [intOf]; omega
          | some y_ =>
            subst hy
            have HReb := Lib.hid (HR.out w5 g 32 16384 c A bs _ HST5.out.ar (by omega) (by rw [HN.out]; omega) HY.out)
            go_wp2_with fail
            refine HReb.out.mono ?_
            rintro e w6 ⟨rfl, hbe⟩
            obtain ⟨A6, c6, hst6, hkeep⟩ := HST5.out.became_keep hbe
            have hr6 : Rd w6 w6.heap.size A8 n bs := HNF5.out.rd HR5.out hkeep
            have hno : y_.length = n := (HYL.out _ rfl)
            have hrb := rrebuild_any w6 (fun k => 0 < n → ¬ foot g A6 k) (fun k hk _ hf => by have := hst6.ar.foot_lt hf; omega) A8 c8 bs n HN.out hr6 hc8 ⟨HA8.out, HNF5.out.next HR5.out hkeep⟩ (by omega) _ HY.out
            dsimp only [Option.getD, Option.isSome] at hrb
            have HRB := Lib.hid hrb
            have HST6 := Lib.hid hst6
            clear hrb hst6 hr6 HReb hbe hkeep hno
            dsimp only [errV]
            go_wp2_with fail
            refine HRB.out.mono ?_
            rintro e w7 ⟨A14, c14, rfl, r14, hc14, hA14, hb⟩
            obtain ⟨wd, hwd⟩ : ∃ wd, w7.drew = wd := ⟨_, rfl⟩
            have bd : Below w7.heap.size w7 wd := by rw [← hwd]; exact (Below.refl _ _).drew
            have hst7 := (HST6.out.below hb).below bd
            have HR14 := Lib.hid ((r14.below bd).more bd.size)
            have HST7 := Lib.hid hst7
            have HBY := Lib.hid (bytes_any hst7.ar (by rw [HYL.out _ rfl]; omega) (by omega))
            have HWD := Lib.hid hwd
            have HA14 := Lib.hid hA14
            clear r14 hb hwd bd hst7 hA14 HRB HST6
            go_wp2_with fail
            refine wp_region_tail wd.heap.size [([0, 1, 2, 3, 4, 5, 6, 7, 8], 9), ([10, 11, 12, 13, 14, 17, 18], 15)] [16, 19, 20] [] (by kernel_rfl) (by kernel_rfl) (by kernel_rfl) (fun _ _ _ _ _ h => h) ?_
            rw [HWD.out]
            refine tail_cons (l := ?segASS) ?hsegASS ?_
            case hsegASS => simp only [pick, List.getElem?_toArray, List.getElem?_cons_succ, List.getElem?_cons_zero]; rfl
            repeat (go_big_quiet_step (fail))
            refine wpQuiet_nil ?_
            refine tail_off10 rfl (some 98) rfl rfl ⟨wd.heap.size, Nat.le_refl _, ?_⟩
            have qb := conv10 HR14.out
            refine tail_cons (l := ?segBSS) ?hsegBSS ?_
            case hsegBSS => simp only [pick, List.getElem?_toArray, List.getElem?_cons_succ, List.getElem?_cons_zero]; rfl
            simp only [Act.put, List.setIfInBounds_toArray, List.set_cons_zero, List.set_cons_succ]
            repeat (go_big_quiet_step (fail))
            refine wpQuiet_nil ?_
            clear qb
            refine tail_call2 (vs := #[.pointer (some ⟨g, 0, none⟩)]) Try.call14 rfl rfl rfl (R := fun r w' => ∃ A c, r = .slice A y_.length c ∧ Rd w' w'.heap.size A y_.length y_ ∧ Below wd.heap.size wd w') (HBY.out.mono ?_) ?_
            · rintro e w' ⟨A', c', rfl, ho, hb⟩
              exact ⟨_, rfl, hb, A', c', rfl, (own_facts ho).1, hb⟩
            rintro r w13 _ ⟨A13, c13, rfl, r13, b13⟩
            refine ⟨w13.heap.size, b13.size, ?_⟩
            have qa := conv10 r13
            refine tail_last (l := ?segCSS) (t := []) ?hsegCSS ?htlCSS ?_
            case hsegCSS => simp only [pick, List.getElem?_toArray, List.getElem?_cons_succ, List.getElem?_cons_zero]; rfl
            case htlCSS => rfl
            simp only [Act.put, List.setIfInBounds_toArray, List.set_cons_zero, List.set_cons_succ]
            repeat (go_big_quiet_step (fail))
            refine wpQuiet_nil ?_
            have HR15 := Lib.hid ((HR14.out.below b13).more b13.size)
            have HST15 := Lib.hid (HST7.out.below b13)
            clear qa r13 b13 HR14 HST7 HBY
            go_wp2
            go_roundw
            case rel => exact ⟨j + 1, A14, c14, y_, A6, c6, rfl, by go_num, by omega, HR15.out, hc14, HA14.out.1, HA14.out.2, HYL.out _ rfl, HST15.out⟩
            case measure => simp only [intOf]; omega
    · have HK := Lib.hid (HB2.out.trans (hst.bel.mono HB2.out.size))
      clear hr hst hnf
      go_wp2
      go_ret
      exact ⟨rfl, HK.out⟩

set_option maxRecDepth 100000 in
set_option maxHeartbeats 1000000 in
theorem ft_long (HS : SetC) (HF : FindC) (HR : RebuildC) (w : World) (n : Int) (A1 : Option Addr) (k1 ll : Nat) (sz : Int) (t0 t1 t2 : Bool) (s0 : decide (n < 0) = t0) (s1 : decide (2000 < n) = t1) (s2 : decide ((60 : Int) < (ll : Int)) = t2) (hf : t0 = true ∨ (t0 = false ∧ t1 = true) ∨ (t0 = false ∧ t1 = false ∧ t2 = true)) :
    Calls Try.prog 3 #[.int .i64 n, .slice A1 ll k1, .int .i64 sz] w fun e w' => e = .returned (.bool true) ∧ Below w.heap.size w w' := by
  have HUP := Lib.hid (up10_any HS HF HR)
  clear HS HF HR
  rcases hf with rfl | ⟨rfl, rfl⟩ | ⟨rfl, rfl, rfl⟩
  · go_enter Try.func3, Try.ntmps3
    go_wp2_with fail
    refine (HUP.out _).mono ?_
    rintro e w1 ⟨rfl, hb⟩
    have HK := Lib.hid hb
    clear hb
    go_wp2
    go_ret
    exact ⟨rfl, HK.out⟩
  · go_enter Try.func3, Try.ntmps3
    go_wp2_with fail
    refine (HUP.out _).mono ?_
    rintro e w1 ⟨rfl, hb⟩
    have HK := Lib.hid hb
    clear hb
    go_wp2
    go_ret
    exact ⟨rfl, HK.out⟩
  · go_enter Try.func3, Try.ntmps3
    go_wp2_with fail
    refine (HUP.out _).mono ?_
    rintro e w1 ⟨rfl, hb⟩
    have HK := Lib.hid hb
    clear hb
    go_wp2
    go_ret
    exact ⟨rfl, HK.out⟩

theorem ft_any (HS : SetC) (HF : FindC) (HR : RebuildC) (w : World) (n : Int) (A1 : Option Addr) (k1 : Nat) (l : List La) (hL : LaRd w w.heap.size A1 l) (sz : Int) (hsz : -9223372036854775808 ≤ sz ∧ sz ≤ 9223372036854775807) :
    Calls Try.prog 3 #[.int .i64 n, .slice A1 l.length k1, .int .i64 sz] w fun e w' => e = .returned (.bool true) ∧ Below w.heap.size w w' := by
  by_cases h : 0 ≤ n ∧ n ≤ 2000 ∧ l.length ≤ 60
  · obtain ⟨m, rfl⟩ : ∃ m : Nat, n = (m : Int) := ⟨n.toNat, by omega⟩
    exact ft_main HS HF HR w m (by omega) A1 k1 l hL h.2.2 sz hsz
  · refine ft_long HS HF HR w n A1 k1 l.length sz _ _ _ rfl rfl rfl ?_
    simp only [decide_eq_true_eq, decide_eq_false_iff_not]
    omega

end Go.Proofs.Ytjokbjmfnidmjaa
