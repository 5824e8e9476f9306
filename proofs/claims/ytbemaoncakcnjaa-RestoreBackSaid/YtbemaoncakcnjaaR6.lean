/- Texts of mine, joined: Lst3, Lst4, Lst6, Spec10, Fit1, Fit3, Spec11. -/
import Derived.Test.YtbemaoncakcnjaaR5

/- The contract of the program's Put. -/
namespace Go.Proofs.Ytbemaoncakcnjaa
open Go.RowKit

section
variable {w w1 : World} {g base cap c : Nat} {A : Option Addr} {bs b1 : List UInt8}
theorem became_of (h : Ar w 74 g base cap A c bs) (hb : Below w.heap.size w w1) : Became 74 g base cap A bs w w1 := ⟨A, c, h.below hb, Tch.of_below hb, .inl rfl⟩
theorem became_set (h : Became 74 g base cap A b1 w w1) (hb : base ≤ 4611686018427387904) (hl : b1.length ≤ 16384) (o : Int) (p : Nat) (hp : o = (p : Int)) (ho : p + 8 ≤ b1.length) (v : Nat) (hv : v < 18446744073709551616) :
    Calls Try.prog 75 #[.pointer (some ⟨g, 0, none⟩), .int .i64 o, .int .u64 (v : Int)] w1 fun e w2 => e = .returned (.tuple #[]) ∧ Became 74 g base cap A (lyN b1 p v) w w2 :=
  step_became h fun _ _ a => lset_any a hb hl o p hp ho v hv
theorem became_num (h : Became 74 g base cap A b1 w w1) (hb : base ≤ 4611686018427387904) (hl : b1.length ≤ 16384) (o : Int) (p : Nat) (hp : o = (p : Int)) (ho : p + 8 ≤ b1.length) (v : Nat) (hv : wordN b1 p = v) :
    Calls Try.prog 64 #[.pointer (some ⟨g, 0, none⟩), .int .i64 o] w1 fun e w2 => e = .returned (.int .u64 (v : Int)) ∧ w1 = w2 := by
  obtain ⟨_, _, a, _, _⟩ := h
  exact lnumber_any a hb hl o p hp ho v hv

set_option maxRecDepth 100000 in
set_option maxHeartbeats 1000000 in
theorem lsetfirst_no (h : Ar w 74 g base cap A c bs) (hb : base ≤ 4611686018427387904) (n : Nat) (hn : bs.length = n) (hl : n ≤ 16384) (hl2 : 184 ≤ n) (k : Nat) (hk : k < 22) :
    Calls Try.prog 76 #[.pointer (some ⟨g, 0, none⟩), .int .i64 (k : Int), .int .u64 0] w fun e w' => e = .returned (.tuple #[]) ∧ Became 74 g base cap A (markB (lyN bs (8 + 8 * k) 0) k) w w' := by
  obtain ⟨b1, hb1⟩ : ∃ b1, lyN bs (8 + 8 * k) 0 = b1 := ⟨_, rfl⟩
  have hbl : b1.length = n := by rw [← hb1, lyN_length _ _ _ (by omega)]; exact hn
  have hw1 : wordN b1 (8 + 8 * k) = 0 := by rw [← hb1]; exact wordN_same _ _ _ (by omega) (by omega)
  obtain ⟨v0, hv0⟩ : ∃ v0, wordN b1 0 = v0 := ⟨_, rfl⟩
  have hvl : v0 < 18446744073709551616 := by rw [← hv0]; exact wordN_lt _ _
  obtain ⟨m, hm⟩ : ∃ m, 2 ^ k = m := ⟨_, rfl⟩
  have hml : m ≤ 2097152 := by rw [← hm]; exact pow22 k hk
  obtain ⟨x, hx⟩ : ∃ x, bitTo v0 k false = x := ⟨_, rfl⟩
  have hxl : x < 18446744073709551616 := by rw [← hx]; exact bitTo_lt v0 k hk hvl false
  have hand : bits .andNot .u64 (v0 : Int) (m : Int) = (x : Int) := by rw [← hm, ← hx]; exact andnot_bit v0 k hvl hk
  have hmk : markB b1 k = lyN b1 0 x := by rw [markB_eq b1 k (by omega), hw1, hv0]; simpa using congrArg (lyN b1 0) hx
  have HS1 := lset_any h hb (by omega) (8 + 8 * (k : Int)) (8 + 8 * k) (by omega) (by omega) 0 (by omega)
  rw [hb1] at HS1 ⊢
  rw [hmk]
  have HS1 := Lib.hid HS1
  have HF := Lib.hid (lfirst_any w k hk)
  have HT := fun W => lbit_any W k hk
  rw [hm] at HT
  have HT := Lib.hid HT
  have HN := Lib.hid (fun W (hB : Became 74 g base cap A b1 w W) => became_num hB hb (by omega) 0 0 rfl (by omega) v0 hv0)
  have HS2 := Lib.hid (fun W (hB : Became 74 g base cap A b1 w W) => became_set hB hb (by omega) 0 0 rfl (by omega) x hxl)
  clear h hb1 hw1 hv0 hm hx hmk hn hbl
  go_enter Try.func76, Try.ntmps76
  go_wp2_with fail
  with_reducible refine HF.out.mono ?_
  rintro e w2 ⟨rfl, rfl⟩
  go_wp2_with fail
  refine HS1.out.mono ?_
  rintro e w2 ⟨rfl, be1⟩
  have B1 := Lib.hid be1
  clear be1
  go_wp2_with fail
  refine (HN.out _ B1.out).mono ?_
  rintro e w3 ⟨rfl, rfl⟩
  go_wp2_with fail
  with_reducible refine (HT.out _).mono ?_
  rintro e w3 ⟨rfl, rfl⟩
  go_wp2_with fail
  refine (HS2.out _ B1.out).mono ?_
  rintro e w3 ⟨rfl, be2⟩
  have B2 := Lib.hid be2
  clear be2
  go_wp2
  go_end0
  exact ⟨rfl, B2.out⟩

set_option maxRecDepth 100000 in
set_option maxHeartbeats 1000000 in
theorem lsetfirst_yes (h : Ar w 74 g base cap A c bs) (hb : base ≤ 4611686018427387904) (n : Nat) (hn : bs.length = n) (hl : n ≤ 16384) (hl2 : 184 ≤ n) (k : Nat) (hk : k < 22) (v : Nat) (hv : v < 18446744073709551616) (hv0 : v ≠ 0) :
    Calls Try.prog 76 #[.pointer (some ⟨g, 0, none⟩), .int .i64 (k : Int), .int .u64 (v : Int)] w fun e w' => e = .returned (.tuple #[]) ∧ Became 74 g base cap A (markB (lyN bs (8 + 8 * k) v) k) w w' := by
  obtain ⟨b1, hb1⟩ : ∃ b1, lyN bs (8 + 8 * k) v = b1 := ⟨_, rfl⟩
  have hbl : b1.length = n := by rw [← hb1, lyN_length _ _ _ (by omega)]; exact hn
  have hw1 : wordN b1 (8 + 8 * k) = v := by rw [← hb1]; exact wordN_same _ _ _ (by omega) (by omega)
  obtain ⟨v1, hv1⟩ : ∃ v1, wordN b1 0 = v1 := ⟨_, rfl⟩
  have hvl : v1 < 18446744073709551616 := by rw [← hv1]; exact wordN_lt _ _
  obtain ⟨m, hm⟩ : ∃ m, 2 ^ k = m := ⟨_, rfl⟩
  have hml : m ≤ 2097152 := by rw [← hm]; exact pow22 k hk
  obtain ⟨x, hx⟩ : ∃ x, bitTo v1 k false = x := ⟨_, rfl⟩
  obtain ⟨y, hy⟩ : ∃ y, bitTo v1 k true = y := ⟨_, rfl⟩
  have hxl : x < 18446744073709551616 := by rw [← hx]; exact bitTo_lt v1 k hk hvl false
  have hyl : y < 18446744073709551616 := by rw [← hy]; exact bitTo_lt v1 k hk hvl true
  have hand : bits .andNot .u64 (v1 : Int) (m : Int) = (x : Int) := by rw [← hm, ← hx]; exact andnot_bit v1 k hvl hk
  have hor : bits .or .u64 (x : Int) (m : Int) = (y : Int) := by
    rw [← hy, bitTo_on, hx, ← hm]
    exact or_bit x k hxl hk (by rw [← hx]; exact bitTo_off v1 k)
  have hmk : markB b1 k = lyN b1 0 y := by rw [markB_eq b1 k (by omega), hw1, hv1, decide_eq_true hv0, hy]
  have hne : ((v : Int) != 0) = true := by rw [bne_iff_ne]; omega
  have HS1 := lset_any h hb (by omega) (8 + 8 * (k : Int)) (8 + 8 * k) (by omega) (by omega) v hv
  rw [hb1] at HS1 ⊢
  rw [hmk]
  have HS1 := Lib.hid HS1
  have HF := Lib.hid (lfirst_any w k hk)
  have HT := fun W => lbit_any W k hk
  rw [hm] at HT
  have HT := Lib.hid HT
  have HN := Lib.hid (fun W (hB : Became 74 g base cap A b1 w W) => became_num hB hb (by omega) 0 0 rfl (by omega) v1 hv1)
  have HS2 := Lib.hid (fun W (hB : Became 74 g base cap A b1 w W) => became_set hB hb (by omega) 0 0 rfl (by omega) y hyl)
  clear h hb1 hw1 hv1 hm hx hy hmk hn hbl
  go_enter Try.func76, Try.ntmps76
  go_wp2_with fail
  with_reducible refine HF.out.mono ?_
  rintro e w2 ⟨rfl, rfl⟩
  go_wp2_with fail
  refine HS1.out.mono ?_
  rintro e w2 ⟨rfl, be1⟩
  have B1 := Lib.hid be1
  clear be1
  go_wp2_with fail
  refine (HN.out _ B1.out).mono ?_
  rintro e w3 ⟨rfl, rfl⟩
  go_wp2_with fail
  with_reducible refine (HT.out _).mono ?_
  rintro e w3 ⟨rfl, rfl⟩
  go_wp2_with fail
  with_reducible refine (HT.out _).mono ?_
  rintro e w3 ⟨rfl, rfl⟩
  go_wp2_with fail
  refine (HS2.out _ B1.out).mono ?_
  rintro e w3 ⟨rfl, be2⟩
  have B2 := Lib.hid be2
  clear be2
  go_wp2
  go_end0
  exact ⟨rfl, B2.out⟩

theorem became_first (h : Became 74 g base cap A b1 w w1) (hb : base ≤ 4611686018427387904) (n : Nat) (hn : b1.length = n) (hl : n ≤ 16384) (hl2 : 184 ≤ n) (k : Nat) (hk : k < 22) (v : Nat) (hv : v < 18446744073709551616) :
    Calls Try.prog 76 #[.pointer (some ⟨g, 0, none⟩), .int .i64 (k : Int), .int .u64 (v : Int)] w1 fun e w2 => e = .returned (.tuple #[]) ∧ Became 74 g base cap A (markB (lyN b1 (8 + 8 * k) v) k) w w2 := by
  refine step_became h fun _ _ a => ?_
  by_cases h0 : v = 0
  · subst h0
    exact lsetfirst_no a hb n hn hl hl2 k hk
  · exact lsetfirst_yes a hb n hn hl hl2 k hk v hv h0
end
end Go.Proofs.Ytbemaoncakcnjaa

/- The contract of the program's Put (genlst.py). -/
namespace Go.Proofs.Ytbemaoncakcnjaa
open Go.RowKit

section
variable {w : World} {g base cap c : Nat} {A : Option Addr} {bs : List UInt8}
set_option maxRecDepth 100000 in
set_option maxHeartbeats 2000000 in
theorem lput_no (h : Ar w 74 g base cap A c bs) (hb : base ≤ 4611686018427387904) (n : Nat) (hn : bs.length = n) (hl : n ≤ 16384) (o : Int) (ho : -9223372036854775808 ≤ o ∧ o ≤ 9223372036854775807) (hk : freeI bs o < 0) :
    Calls Try.prog 50 #[.pointer (some ⟨g, 0, none⟩), .int .i64 o] w fun e w' => e = .returned (errV false 3) ∧ Below w.heap.size w w' := by
  have HF := Lib.hid (lfree_no h hb (by omega) o ho hk)
  clear h hk hn
  go_enter Try.func50, Try.ntmps50
  go_wp2_with fail
  with_reducible refine HF.out.mono ?_
  rintro e w1 ⟨rfl, hb1⟩
  have HB := Lib.hid hb1
  clear hb1
  go_wp2
  go_ret
  exact ⟨rfl, HB.out⟩

set_option maxRecDepth 100000 in
set_option maxHeartbeats 2000000 in
theorem lput_same (h : Ar w 74 g base cap A c bs) (hb : base ≤ 4611686018427387904) (n : Nat) (hn : bs.length = n) (hl : n ≤ 16384) (p k f : Nat) (hk : freeI bs (p : Int) = (k : Int)) (hf : wordN bs (8 + 8 * k) = f) (hfp : f = p) :
    Calls Try.prog 50 #[.pointer (some ⟨g, 0, none⟩), .int .i64 (p : Int)] w fun e w' => e = .returned (errV false 3) ∧ Below w.heap.size w w' := by
  obtain ⟨p184, p32, k22⟩ := freeI_in hk
  have hfl : f < 18446744073709551616 := by rw [← hf]; exact wordN_lt _ _
  have HF := Lib.hid (lfree_yes h hb (by omega) (p : Int) (by omega) k hk)
  have HFA := Lib.hid (fun W => lfirst_any W k k22)
  have HNF := Lib.hid (fun W (hB : Below w.heap.size w W) => lnumber_any (h.below hB) hb (by omega) (8 + 8 * (k : Int)) (8 + 8 * k) (by omega) (by omega) f hf)
  have hp2 : p + 32 ≤ n := by omega
  have hp3 : 184 ≤ p := by omega
  have s1 : ((f : Int) == (p : Int)) = true := by rw [beq_iff_eq]; omega
  clear h hk hf hn hfp
  go_enter Try.func50, Try.ntmps50
  go_wp2_with fail
  with_reducible refine HF.out.mono ?_
  rintro e w1 ⟨rfl, hb1⟩
  have HB := Lib.hid hb1
  clear hb1 HF
  go_wp2_with fail
  refine (HFA.out _).mono ?_
  rintro e w9 ⟨rfl, rfl⟩
  go_wp2_with fail
  refine (HNF.out _ HB.out).mono ?_
  rintro e w9 ⟨rfl, rfl⟩
  clear HFA HNF
  go_wp2
  go_ret
  exact ⟨rfl, HB.out⟩

set_option maxRecDepth 100000 in
set_option maxHeartbeats 2000000 in
theorem lput_other (h : Ar w 74 g base cap A c bs) (hb : base ≤ 4611686018427387904) (n : Nat) (hn : bs.length = n) (hl : n ≤ 16384) (p k f : Nat) (hk : freeI bs (p : Int) = (k : Int)) (hf : wordN bs (8 + 8 * k) = f) (hfp : f ≠ p) (hf0 : f ≠ 0) (hm : memberB bs f (k : Int) = false) :
    Calls Try.prog 50 #[.pointer (some ⟨g, 0, none⟩), .int .i64 (p : Int)] w fun e w' => e = .returned (errV false 3) ∧ Below w.heap.size w w' := by
  obtain ⟨p184, p32, k22⟩ := freeI_in hk
  have hfl : f < 18446744073709551616 := by rw [← hf]; exact wordN_lt _ _
  have HF := Lib.hid (lfree_yes h hb (by omega) (p : Int) (by omega) k hk)
  have HFA := Lib.hid (fun W => lfirst_any W k k22)
  have HNF := Lib.hid (fun W (hB : Below w.heap.size w W) => lnumber_any (h.below hB) hb (by omega) (8 + 8 * (k : Int)) (8 + 8 * k) (by omega) (by omega) f hf)
  have hp2 : p + 32 ≤ n := by omega
  have hp3 : 184 ≤ p := by omega
  have HM := Lib.hid (fun W (hB : Below w.heap.size w W) => lmember_any (h.below hB) hb (by omega) k f k22 hfl _ hm)
  have s1 : ((f : Int) == (p : Int)) = false := by rw [beq_eq_false_iff_ne]; omega
  have s2 : ((f : Int) != 0) = true := by rw [bne_iff_ne]; omega
  clear h hk hf hn hm
  go_enter Try.func50, Try.ntmps50
  go_wp2_with fail
  with_reducible refine HF.out.mono ?_
  rintro e w1 ⟨rfl, hb1⟩
  have HB := Lib.hid hb1
  clear hb1 HF
  go_wp2_with fail
  refine (HFA.out _).mono ?_
  rintro e w9 ⟨rfl, rfl⟩
  go_wp2_with fail
  refine (HNF.out _ HB.out).mono ?_
  rintro e w9 ⟨rfl, rfl⟩
  clear HFA HNF
  go_wp2_with fail
  refine (HM.out _ HB.out).mono ?_
  rintro e w2 ⟨rfl, hb2⟩
  have HB2 := Lib.hid (HB.out.trans (hb2.mono HB.out.size))
  clear hb2 HM HB
  go_wp2
  go_ret
  exact ⟨rfl, HB2.out⟩

set_option maxRecDepth 100000 in
set_option maxHeartbeats 2000000 in
theorem lput_empty (h : Ar w 74 g base cap A c bs) (hb : base ≤ 4611686018427387904) (n : Nat) (hn : bs.length = n) (hl : n ≤ 16384) (p k f : Nat) (hk : freeI bs (p : Int) = (k : Int)) (hf : wordN bs (8 + 8 * k) = f) (hf0 : f = 0) :
    Calls Try.prog 50 #[.pointer (some ⟨g, 0, none⟩), .int .i64 (p : Int)] w fun e w' => e = .returned (errV true 3) ∧ Became 74 g base cap A (markB (lyN (lyN (lyN bs (p + 8) f) (p + 16) 0) (8 + 8 * k) p) k) w w' := by
  obtain ⟨p184, p32, k22⟩ := freeI_in hk
  have hfl : f < 18446744073709551616 := by rw [← hf]; exact wordN_lt _ _
  have HF := Lib.hid (lfree_yes h hb (by omega) (p : Int) (by omega) k hk)
  have HFA := Lib.hid (fun W => lfirst_any W k k22)
  have HNF := Lib.hid (fun W (hB : Below w.heap.size w W) => lnumber_any (h.below hB) hb (by omega) (8 + 8 * (k : Int)) (8 + 8 * k) (by omega) (by omega) f hf)
  have hp2 : p + 32 ≤ n := by omega
  have hp3 : 184 ≤ p := by omega
  have s1 : ((f : Int) == (p : Int)) = false := by rw [beq_eq_false_iff_ne]; omega
  have s2 : ((f : Int) != 0) = false := by subst hf0; rfl
  have HBO := Lib.hid (fun W (hB : Below w.heap.size w W) => became_of h hB)
  obtain ⟨b1, hb1⟩ : ∃ b, lyN bs (p + 8) f = b := ⟨_, rfl⟩
  have nb1 : b1.length = n := by rw [← hb1, lyN_length _ _ _ (by omega)]; exact hn
  have HS1 := fun W (hB : Became 74 g base cap A bs w W) => became_set hB hb (by omega) ((p : Int) + 8) (p + 8) (by omega) (by omega) f hfl
  rw [hb1] at HS1 ⊢
  have HS1 := Lib.hid HS1
  obtain ⟨b2, hb2⟩ : ∃ b, lyN b1 (p + 16) 0 = b := ⟨_, rfl⟩
  have nb2 : b2.length = n := by rw [← hb2, lyN_length _ _ _ (by omega)]; exact nb1
  have HS2 := fun W (hB : Became 74 g base cap A b1 w W) => became_set hB hb (by omega) ((p : Int) + 16) (p + 16) (by omega) (by omega) 0 (by omega)
  rw [hb2] at HS2 ⊢
  have HS2 := Lib.hid HS2
  have HSF := Lib.hid (fun W (hB : Became 74 g base cap A b2 w W) => became_first hB hb n nb2 hl (by omega) k k22 p (by omega))
  clear hb1 nb1 hb2 nb2
  clear h hk hf hn hf0
  go_enter Try.func50, Try.ntmps50
  go_wp2_with fail
  with_reducible refine HF.out.mono ?_
  rintro e w1 ⟨rfl, hb1⟩
  have HB := Lib.hid hb1
  clear hb1 HF
  go_wp2_with fail
  refine (HFA.out _).mono ?_
  rintro e w9 ⟨rfl, rfl⟩
  go_wp2_with fail
  refine (HNF.out _ HB.out).mono ?_
  rintro e w9 ⟨rfl, rfl⟩
  clear HFA HNF
  have G0 := Lib.hid (HBO.out _ HB.out)
  clear HBO HB
  go_wp2_with fail
  refine (HS1.out _ G0.out).mono ?_
  rintro e x1 ⟨rfl, bb⟩
  have G1 := Lib.hid bb
  clear bb HS1 G0
  go_wp2_with fail
  refine (HS2.out _ G1.out).mono ?_
  rintro e x2 ⟨rfl, bb⟩
  have G2 := Lib.hid bb
  clear bb HS2 G1
  go_wp2_with fail
  refine (HSF.out _ G2.out).mono ?_
  rintro e x9 ⟨rfl, bb⟩
  have G9 := Lib.hid bb
  clear bb HSF G2
  go_wp2
  go_ret
  exact ⟨rfl, G9.out⟩

set_option maxRecDepth 100000 in
set_option maxHeartbeats 2000000 in
theorem lput_member (h : Ar w 74 g base cap A c bs) (hb : base ≤ 4611686018427387904) (n : Nat) (hn : bs.length = n) (hl : n ≤ 16384) (p k f : Nat) (hk : freeI bs (p : Int) = (k : Int)) (hf : wordN bs (8 + 8 * k) = f) (hfp : f ≠ p) (hf0 : f ≠ 0) (hm : memberB bs f (k : Int) = true) :
    Calls Try.prog 50 #[.pointer (some ⟨g, 0, none⟩), .int .i64 (p : Int)] w fun e w' => e = .returned (errV true 3) ∧ Became 74 g base cap A (markB (lyN (lyN (lyN (lyN bs (p + 8) f) (p + 16) 0) (f + 16) p) (8 + 8 * k) p) k) w w' := by
  obtain ⟨p184, p32, k22⟩ := freeI_in hk
  have hfl : f < 18446744073709551616 := by rw [← hf]; exact wordN_lt _ _
  have HF := Lib.hid (lfree_yes h hb (by omega) (p : Int) (by omega) k hk)
  have HFA := Lib.hid (fun W => lfirst_any W k k22)
  have HNF := Lib.hid (fun W (hB : Below w.heap.size w W) => lnumber_any (h.below hB) hb (by omega) (8 + 8 * (k : Int)) (8 + 8 * k) (by omega) (by omega) f hf)
  have hp2 : p + 32 ≤ n := by omega
  have hp3 : 184 ≤ p := by omega
  have HM := Lib.hid (fun W (hB : Below w.heap.size w W) => lmember_any (h.below hB) hb (by omega) k f k22 hfl _ hm)
  have s1 : ((f : Int) == (p : Int)) = false := by rw [beq_eq_false_iff_ne]; omega
  have s2 : ((f : Int) != 0) = true := by rw [bne_iff_ne]; omega
  have hfin := memberB_in hm
  have hf16 : f + 16 + 8 ≤ n := by omega
  have hf1 : f ≤ 16384 := by omega
  have HBO := Lib.hid (fun W (hB : Below w.heap.size w W) => became_of h hB)
  obtain ⟨b1, hb1⟩ : ∃ b, lyN bs (p + 8) f = b := ⟨_, rfl⟩
  have nb1 : b1.length = n := by rw [← hb1, lyN_length _ _ _ (by omega)]; exact hn
  have HS1 := fun W (hB : Became 74 g base cap A bs w W) => became_set hB hb (by omega) ((p : Int) + 8) (p + 8) (by omega) (by omega) f hfl
  rw [hb1] at HS1 ⊢
  have HS1 := Lib.hid HS1
  obtain ⟨b2, hb2⟩ : ∃ b, lyN b1 (p + 16) 0 = b := ⟨_, rfl⟩
  have nb2 : b2.length = n := by rw [← hb2, lyN_length _ _ _ (by omega)]; exact nb1
  have HS2 := fun W (hB : Became 74 g base cap A b1 w W) => became_set hB hb (by omega) ((p : Int) + 16) (p + 16) (by omega) (by omega) 0 (by omega)
  rw [hb2] at HS2 ⊢
  have HS2 := Lib.hid HS2
  obtain ⟨b3, hb3⟩ : ∃ b, lyN b2 (f + 16) p = b := ⟨_, rfl⟩
  have nb3 : b3.length = n := by rw [← hb3, lyN_length _ _ _ (by omega)]; exact nb2
  have HS3 := fun W (hB : Became 74 g base cap A b2 w W) => became_set hB hb (by omega) ((f : Int) + 16) (f + 16) (by omega) (by omega) p (by omega)
  rw [hb3] at HS3 ⊢
  have HS3 := Lib.hid HS3
  have HSF := Lib.hid (fun W (hB : Became 74 g base cap A b3 w W) => became_first hB hb n nb3 hl (by omega) k k22 p (by omega))
  clear hb1 nb1 hb2 nb2 hb3 nb3
  clear h hk hf hn hm
  go_enter Try.func50, Try.ntmps50
  go_wp2_with fail
  with_reducible refine HF.out.mono ?_
  rintro e w1 ⟨rfl, hb1⟩
  have HB := Lib.hid hb1
  clear hb1 HF
  go_wp2_with fail
  refine (HFA.out _).mono ?_
  rintro e w9 ⟨rfl, rfl⟩
  go_wp2_with fail
  refine (HNF.out _ HB.out).mono ?_
  rintro e w9 ⟨rfl, rfl⟩
  clear HFA HNF
  go_wp2_with fail
  refine (HM.out _ HB.out).mono ?_
  rintro e w2 ⟨rfl, hb2⟩
  have HB2 := Lib.hid (HB.out.trans (hb2.mono HB.out.size))
  clear hb2 HM HB
  have G0 := Lib.hid (HBO.out _ HB2.out)
  clear HBO HB2
  go_wp2_with fail
  refine (HS1.out _ G0.out).mono ?_
  rintro e x1 ⟨rfl, bb⟩
  have G1 := Lib.hid bb
  clear bb HS1 G0
  go_wp2_with fail
  refine (HS2.out _ G1.out).mono ?_
  rintro e x2 ⟨rfl, bb⟩
  have G2 := Lib.hid bb
  clear bb HS2 G1
  go_wp2_with fail
  refine (HS3.out _ G2.out).mono ?_
  rintro e x3 ⟨rfl, bb⟩
  have G3 := Lib.hid bb
  clear bb HS3 G2
  go_wp2_with fail
  refine (HSF.out _ G3.out).mono ?_
  rintro e x9 ⟨rfl, bb⟩
  have G9 := Lib.hid bb
  clear bb HSF G3
  go_wp2
  go_ret
  exact ⟨rfl, G9.out⟩

end
theorem putC : PutC := by
  intro w g base cap c A bs o y h hb hl ho hy
  subst hy
  rcases freeI_cases bs o with hk | ⟨k, hk⟩
  · have e : putB bs o = none := by unfold putB; rw [if_pos hk]
    rw [e]
    exact lput_no h hb _ rfl hl o ho hk
  · obtain ⟨p184, p32, k22⟩ := freeI_in hk
    obtain ⟨p, rfl⟩ : ∃ p : Nat, o = (p : Int) := ⟨o.toNat, by omega⟩
    obtain ⟨f, hf⟩ : ∃ f, wordN bs (8 + 8 * k) = f := ⟨_, rfl⟩
    have e : putB bs (p : Int) = if (f : Int) = (p : Int) ∨ (f ≠ 0 ∧ memberB bs f (k : Int) = false) then none else some (markB (lyN (if f ≠ 0 then lyN (lyN (lyN bs (p + 8) f) (p + 16) 0) (f + 16) p else lyN (lyN bs (p + 8) f) (p + 16) 0) (8 + 8 * k) p) k) := by
      unfold putB
      rw [hk, if_neg (by omega)]
      simp only [Int.toNat_natCast, hf]
    rw [e]
    by_cases hfp : f = p
    · rw [if_pos (.inl (by omega))]
      exact lput_same h hb _ rfl hl p k f hk hf hfp
    · by_cases hf0 : f = 0
      · rw [if_neg (by omega), if_neg (by omega)]
        exact lput_empty h hb _ rfl hl p k f hk hf hf0
      · cases hm : memberB bs f (k : Int) with
        | false =>
          rw [if_pos (.inr ⟨hf0, rfl⟩)]
          exact lput_other h hb _ rfl hl p k f hk hf hfp hf0 hm
        | true =>
          rw [if_neg (fun h1 => h1.elim (fun h2 => hfp (by omega)) (fun h2 => by cases h2.2)), if_pos hf0]
          exact lput_member h hb _ rfl hl p k f hk hf hfp hf0 hm
end Go.Proofs.Ytbemaoncakcnjaa

/- The contract of the program's All. -/
namespace Go.Proofs.Ytbemaoncakcnjaa
open Go.RowKit

set_option maxRecDepth 100000 in
set_option maxHeartbeats 4000000 in
theorem allC : AllC := by
  intro w g base cap c A bs k x h hb hl hk hx
  have hk1 : ¬ (k : Int) < 0 := by omega
  have hk2 : ¬ 22 ≤ (k : Int) := by omega
  by_cases h0 : bs.length < 184
  · obtain rfl : none = x := by rw [← hx]; unfold allB; rw [if_pos h0]
    have HL := Lib.hid (len_any h)
    clear hx h
    go_enter Try.func40, Try.ntmps40
    go_wp2_with fail
    with_reducible refine HL.out.mono ?_
    rintro e w1 ⟨rfl, rfl⟩
    go_wp2
    go_ret2
    exact ⟨none, 0, rfl, World.ownsRow_nil _ _ _ _, Below.refl _ _⟩
  · obtain ⟨f, hf⟩ : ∃ f, wordN bs (8 + 8 * k) = f := ⟨_, rfl⟩
    obtain ⟨b, hbt⟩ : ∃ b, bitN (wordN bs 0) k = b := ⟨_, rfl⟩
    have hfl : f < 18446744073709551616 := by rw [← hf]; exact wordN_lt _ _
    have hx' : (if b ≠ decide (f ≠ 0) then none else allF bs k 1024 0 f) = x := by rw [← hx]; unfold allB; rw [if_neg h0, hf, hbt]
    have HL := Lib.hid (len_any h)
    have HFA := Lib.hid (lfirst_any w k hk)
    have HNF := Lib.hid (lnumber_any h hb hl (8 + 8 * (k : Int)) (8 + 8 * k) (by omega) (by omega) f hf)
    have HBT := Lib.hid (lhasbit_any h hb hl (by omega) k hk b hbt)
    have HAR := Lib.hid h
    have HBASE := Lib.hid hb
    obtain ⟨d, hd⟩ : ∃ d, decide (f ≠ 0) = d := ⟨_, rfl⟩
    have hd2 : ((f : Int) != 0) = d := by
      rw [← hd, Bool.eq_iff_iff, bne_iff_ne, decide_eq_true_eq]; omega
    rw [hd] at hx'
    clear hf hbt hx h hb
    by_cases hbd : b = d
    · subst hbd
      rw [if_neg (by simp)] at hx'
      obtain ⟨i0, hi, hz0, hz1, hz2⟩ := info_parts int_inf
      have HX := Lib.hid hx'
      obtain ⟨B0, hB0⟩ : ∃ B0, w.heap.size = B0 := ⟨_, rfl⟩
      have HB0 := Lib.hid hB0
      have hbb : (b != b) = false := by simp
      clear hx' hB0 hd
      go_enter Try.func40, Try.ntmps40
      go_wp2_with fail
      with_reducible refine HL.out.mono ?_
      rintro e w1 ⟨rfl, rfl⟩
      go_wp2_with fail
      with_reducible refine HFA.out.mono ?_
      rintro e w1 ⟨rfl, rfl⟩
      go_wp2_with fail
      with_reducible refine HNF.out.mono ?_
      rintro e w1 ⟨rfl, rfl⟩
      go_wp2_with fail
      with_reducible refine HBT.out.mono ?_
      rintro e w1 ⟨rfl, rfl⟩
      clear HL HFA HNF HBT
      go_wp2
      clear hd2
      go_loopw [6, 7, 8] (fun q o t wr => ∃ (p last n : Nat) (l : List Nat), q = .int .u64 (p : Int) ∧ t = .int .u64 (last : Int) ∧ p < 18446744073709551616 ∧ last < 18446744073709551616 ∧ n + l.length = 1024 ∧ x = (allF bs k n last p).map (l ++ ·) ∧ wr.ownsRow B0 3 1 o l.length (l.map iV) ∧ Below B0 w wr) (fun _ o _ _ => match o with | .slice _ n _ => 1024 - n | _ => 0)
      case atStart => exact ⟨f, 0, 1024, [], rfl, rfl, hfl, by omega, rfl, by rw [HX.out]; simp, World.ownsRow_nil _ _ _ _, Below.refl _ _⟩
      case round =>
        obtain ⟨p, last, n, l, rfl, rfl, hp, hlast, hn, hxl, hown, hbw⟩ := hrel
        obtain ⟨A7, c7, rfl⟩ := own_sl hown
        have hBw : B0 ≤ wr.heap.size := by have := hbw.size; have := HB0.out; omega
        by_cases hp0 : p = 0
        · subst hp0
          obtain rfl : x = some l := by rw [hxl]; cases n <;> simp [allF]
          have HB := Lib.hid hbw
          have HO := Lib.hid hown
          clear hxl hown hbw HX HAR HBASE
          go_wp2
          go_ret2
          exact ⟨A7, c7, rfl, by rw [HB0.out]; exact HO.out, by rw [HB0.out]; exact HB.out⟩
        · have hq0 : ((p : Int) != 0) = true := by rw [bne_iff_ne]; omega
          have har := HAR.out.below (by rw [HB0.out]; exact hbw)
          by_cases hn0 : n = 0
          · subst hn0
            obtain rfl : x = none := by rw [hxl]; simp [allF, hp0]
            have e1 : ((l.length : Int) == 1024) = true := by rw [beq_iff_eq]; omega
            have HB := Lib.hid hbw
            clear hxl hown hbw HX HAR HBASE har
            go_wp2
            go_ret2
            exact ⟨none, 0, rfl, World.ownsRow_nil _ _ _ _, by rw [HB0.out]; exact HB.out⟩
          · obtain ⟨n, rfl⟩ : ∃ n', n = n' + 1 := ⟨n - 1, by omega⟩
            have e1 : ((l.length : Int) == 1024) = false := by rw [beq_eq_false_iff_ne]; omega
            have hstep : x = (if memberB bs p (k : Int) = true ∧ wordN bs (p + 16) = last then (allF bs k n p (wordN bs (p + 8))).map (p :: ·) else none).map (l ++ ·) := by
              rw [hxl]
              conv => lhs; unfold allF
              rw [if_neg hp0]
            cases hm : memHas bs k p 16 last with
            | false =>
              rw [if_neg (by
                rintro ⟨h1, h2⟩
                unfold memHas at hm
                rw [h1, h2] at hm
                simp at hm)] at hstep
              obtain rfl : x = none := hstep
              have HM := Lib.hid (lhas_any har HBASE.out hl k p 16 last hk hp (by omega) false hm)
              have HB := Lib.hid hbw
              clear hxl hown hbw HX HAR HBASE har hm
              go_wp2_with fail
              refine HM.out.mono ?_
              rintro e w2 ⟨rfl, hb2⟩
              have HB2 := Lib.hid (HB.out.trans (hb2.mono hBw))
              clear hb2
              go_wp2
              go_ret2
              exact ⟨none, 0, rfl, World.ownsRow_nil _ _ _ _, by rw [HB0.out]; exact HB2.out⟩
            | true =>
              obtain ⟨hm1, hm2⟩ : memberB bs p (k : Int) = true ∧ wordN bs (p + 16) = last := by
                unfold memHas at hm
                rw [Bool.and_eq_true, beq_iff_eq] at hm
                exact hm
              have hpf := memberB_in hm1
              obtain ⟨nx, hnx⟩ : ∃ nx, wordN bs (p + 8) = nx := ⟨_, rfl⟩
              have hnl : nx < 18446744073709551616 := by rw [← hnx]; exact wordN_lt _ _
              rw [if_pos ⟨hm1, hm2⟩, hnx] at hstep
              have hstep' : x = (allF bs k n p nx).map ((l ++ [p]) ++ ·) := by
                rw [hstep, Option.map_map]
                congr 1
                funext r
                simp
              have hp16 : p ≤ 16384 := by omega
              have hww : w.heap.size ≤ wr.heap.size := by have := HB0.out; omega
              have HN := Lib.hid (fun W (hB : Below w.heap.size w W) => lnumber_any (HAR.out.below hB) HBASE.out hl ((p : Int) + 8) (p + 8) (by omega) (by omega) nx hnx)
              have HM := Lib.hid (lhas_any har HBASE.out hl k p 16 last hk hp (by omega) true hm)
              have HB := Lib.hid hbw
              have HS := Lib.hid hstep'
              have HOWN := Lib.hid hown
              have HALT : Hid (∀ k, (Value.slice A7 l.length c7).ownBlock = some k → B0 ≤ k ∧ k < wr.heap.size) := hown.lt
              clear hxl hstep hstep' hown hbw HX hm hm1 hm2 hnx har HAR HBASE
              go_wp2_with fail
              refine HM.out.mono ?_
              rintro e w2 ⟨rfl, hb2⟩
              have H2 := Lib.hid hb2
              have own4 := own_below' (own_below' HOWN.out hb2) ((Below.refl w2.heap.size w2).alloc (Nat.le_refl _) (.cells #[.int .i64 (p : Int)] 3))
              have n4 : (w2.alloc (.cells #[.int .i64 (p : Int)] 3)).heap[w2.heap.size]? = some (.cells #[.int .i64 (p : Int)] 3 (0, 0)) := heap_alloc_new w2 _
              have HNEW : Hid (∀ j u, [Value.int .i64 (p : Int)][j]? = some u → (w2.alloc (.cells #[.int .i64 (p : Int)] 3)).cell? ((⟨w2.heap.size, 0, none⟩ : Addr).add j) = some u) := fun j u hu => by
                have e : (⟨w2.heap.size, 0, none⟩ : Addr).add j = ⟨w2.heap.size, j, none⟩ := by unfold Addr.add; split <;> simp_all
                rw [e, cell_of_row _ _ j _ _ (0, 0) n4]
                simpa using hu
              have HONE : Hid (∀ u ∈ [Value.int .i64 (p : Int)], u.oneCell' = true) := fun u hu => by
                simp at hu
                subst hu; rfl
              have hB4 : B0 ≤ (w2.alloc (.cells #[.int .i64 (p : Int)] 3)).heap.size := by simp; have := hb2.size; omega
              have HB4 : Hid (Below w2.heap.size w2 (w2.alloc (.cells #[.int .i64 (p : Int)] 3))) := (Below.refl w2.heap.size w2).alloc (Nat.le_refl _) _
              have OWN4 := Lib.hid own4
              have hsz2 := hb2.size
              clear own4 n4 hb2 HOWN HM
              go_wp2_with (first
                | (at_builtin; go_must (refine wpList_append_own _ rfl _ _ 84 rfl B0 3 i0 _ 1 8 Try.underlying84 hi hz0 hz1 hz2 rfl (by decide) _ l.length (l.map iV) rfl OWN4.out ⟨w2.heap.size, 0, none⟩ 1 1 [.int .i64 (p : Int)] rfl rfl HNEW.out HONE.out (by unfold maxLen; omega) (by omega) hB4 ?_); intro x5 w5 own5 gr5 at5;
                   have gr5' : (w2.alloc (.cells #[.int .i64 (p : Int)] 3)).grownBy w5 (Value.slice A7 l.length c7).ownBlock := gr5; have HB5 : Hid (Below B0 wr w5) := ((H2.out.mono hBw).trans (HB4.out.mono (by omega))).grown gr5' hB4 (fun k hk => (HALT.out k hk).1); have HW5 : Hid (Below w.heap.size w w5) := (show Below w.heap.size w w5 by rw [HB0.out]; exact HB.out.trans HB5.out); have OWN5 : Hid (w5.ownsRow B0 3 1 x5 (l.length + 1) ((l ++ [p]).map iV)) := (show World.ownsRow _ _ _ _ _ _ _ by rw [List.map_append]; exact own5); clear own5 gr5 gr5' at5)
                | fail)
              refine (HN.out w5 HW5.out).mono ?_
              rintro e w6 ⟨rfl, rfl⟩
              have HBE := Lib.hid (HB.out.trans HB5.out)
              clear HN H2 HB4 OWN4 HNEW HONE
              go_wp2
              go_roundw
              case rel => exact ⟨nx, p, n, l ++ [p], rfl, rfl, hnl, hp, by rw [List.length_append, List.length_singleton]; omega, HS.out, by rw [List.length_append, List.length_singleton]; exact OWN5.out, HBE.out⟩
              case measure =>
                obtain ⟨A8, c8, rfl⟩ := own_sl OWN5.out
                simp; omega
    · rw [if_pos hbd] at hx'
      obtain rfl : none = x := hx'
      have hcs : (b = true ∧ d = false) ∨ (b = false ∧ d = true) := by cases b <;> cases d <;> simp_all
      clear hd hbd HAR HBASE
      rcases hcs with ⟨rfl, rfl⟩ | ⟨rfl, rfl⟩
      all_goals
        go_enter Try.func40, Try.ntmps40
        go_wp2_with fail
        with_reducible refine HL.out.mono ?_
        rintro e w1 ⟨rfl, rfl⟩
        go_wp2_with fail
        with_reducible refine HFA.out.mono ?_
        rintro e w1 ⟨rfl, rfl⟩
        go_wp2_with fail
        with_reducible refine HNF.out.mono ?_
        rintro e w1 ⟨rfl, rfl⟩
        go_wp2_with fail
        with_reducible refine HBT.out.mono ?_
        rintro e w1 ⟨rfl, rfl⟩
        clear HL HFA HNF HBT
        go_wp2
        go_ret2
        exact ⟨none, 0, rfl, World.ownsRow_nil _ _ _ _, Below.refl _ _⟩
end Go.Proofs.Ytbemaoncakcnjaa

/- What the program's fits (layer 10) are to tell: the words in which the laws ask for it. -/
namespace Go.Proofs.Ytbemaoncakcnjaa
open Go.RowKit

def RebuildC : Prop := ∀ (w : World) (g base cap c : Nat) (A : Option Addr) (bs : List UInt8) (y : Option (List UInt8)), Ar w 74 g base cap A c bs → base ≤ 4611686018427387904 → bs.length ≤ 16384 → rebuildB bs = y →
  Calls Try.prog 26 #[.pointer (some ⟨g, 0, none⟩)] w fun e w' => Done 3 74 g base cap A y w e w'
end Go.Proofs.Ytbemaoncakcnjaa

/- The program's fits (layer 10): the lists cleared, a block put behind others, the first of a list that has so many bytes. -/
namespace Go.Proofs.Ytbemaoncakcnjaa
open Go.RowKit

section
variable {w : World} {g base cap c : Nat} {A : Option Addr} {bs : List UInt8}
set_option maxHeartbeats 400000 in
theorem lclear_yes (h : Ar w 74 g base cap A c bs) (hb : base ≤ 4611686018427387904) (hl : bs.length ≤ 16384) (h184 : 184 ≤ bs.length) (z : List UInt8) (hz : List.replicate 184 (0 : UInt8) ++ bs.drop 184 = z) :
    Calls Try.prog 49 #[.pointer (some ⟨g, 0, none⟩)] w fun e w' => e = .returned .nilIface ∧ Became 74 g base cap A z w w' := by
  have HA := Lib.hid (base_any h)
  have hf := fill_ok h (by omega) base 184 0 0 (by omega) (by omega) (by omega) (by omega)
  have e : lay bs 0 (List.replicate 184 (0 : UInt8)) = z := by
    have e1 : (List.replicate 184 (0 : UInt8)).length = 184 := List.length_replicate
    rw [← hz]
    unfold lay
    rw [e1, Nat.zero_add, List.take_zero, List.nil_append]
  rw [e] at hf
  have HF : Hid (Calls Try.prog 72 #[.pointer (some ⟨g, 0, none⟩), .int .u64 (base : Int), .int .u64 184, .int .u8 0] w fun e w' => e = .returned .nilIface ∧ Became 74 g base cap A z w w') := hf
  clear hf e hz h
  go_enter Try.func49, Try.ntmps49
  go_wp2_with fail
  with_reducible refine HA.out.mono ?_
  rintro e w1 ⟨rfl, rfl⟩
  go_wp2_with fail
  refine HF.out.mono ?_
  rintro e w1 ⟨rfl, hbe⟩
  have HB := Lib.hid hbe
  clear hbe
  go_wp2
  go_ret
  exact ⟨rfl, HB.out⟩
end

section
variable {w w1 w2 : World} {g base cap : Nat} {A : Option Addr} {out : List UInt8}
theorem became_below (h : Became 74 g base cap A out w w1) (hb : Below w1.heap.size w1 w2) : Became 74 g base cap A out w w2 := by
  obtain ⟨A', c', a, tc, k⟩ := h
  exact Became.trans a tc k (became_of a hb)
theorem putB_len (h : 184 ≤ out.length) (o : Int) : ((putB out o).getD out).length = out.length := by
  cases hp : putB out o with
  | none => rfl
  | some y => exact (putB_high h hp).1
/-- A block that is put behind others; with an error nothing changes. -/
theorem became_put (h : Became 74 g base cap A out w w1) (hb : base ≤ 4611686018427387904) (hl : out.length ≤ 16384) (o : Int) (ho : -9223372036854775808 ≤ o ∧ o ≤ 9223372036854775807) :
    Calls Try.prog 50 #[.pointer (some ⟨g, 0, none⟩), .int .i64 o] w1 fun e w2 => (∃ v, e = .returned v) ∧ Became 74 g base cap A ((putB out o).getD out) w w2 := by
  obtain ⟨A', c', a, tc, k⟩ := h
  refine (putC w1 g base cap c' A' out o _ a hb hl ho rfl).mono ?_
  intro e w2 hd
  unfold Done at hd
  cases hp : putB out o with
  | none =>
    rw [hp] at hd
    exact ⟨⟨_, hd.1⟩, Became.trans a tc k (became_of a hd.2)⟩
  | some y =>
    rw [hp] at hd
    exact ⟨⟨_, hd.1⟩, Became.trans a tc k hd.2⟩
end

section
variable {w : World} {g base cap c : Nat} {A : Option Addr} {bs : List UInt8}
end
end Go.Proofs.Ytbemaoncakcnjaa

/- The contract of the program's Rebuild. -/
namespace Go.Proofs.Ytbemaoncakcnjaa
open Go.RowKit

theorem rebF_len {out : List UInt8} (h : 184 ≤ out.length) (x : Bk) : (rebF out x).length = out.length := by
  unfold rebF
  split
  · rfl
  · exact putB_len h _
theorem rebs_len : ∀ (l : List Bk) {out : List UInt8}, 184 ≤ out.length → (l.foldl rebF out).length = out.length
  | [], _, _ => rfl
  | x :: r, out, h => by
    rw [List.foldl_cons, rebs_len r (by rw [rebF_len h]; exact h), rebF_len h]

theorem tch_cell {S : Nat → Prop} {w w' : World} (h : Tch S w w') {b j : Nat} {v : Value} (hc : w.cell? ⟨b, j, none⟩ = some v) (hb : b < w.heap.size) (hn : ¬ S b) : w'.cell? ⟨b, j, none⟩ = some v :=
  (World.cell?_of_block (w := w) (a := ⟨b, j, none⟩) (h.block b hb hn)).trans hc

set_option maxRecDepth 100000 in
set_option maxHeartbeats 2000000 in
theorem rebuildC : RebuildC := by
  intro w g base cap c A bs y h hb hl hy
  cases hw : walkB bs with
  | none =>
    obtain rfl : none = y := by rw [← hy]; unfold rebuildB; rw [hw]; rfl
    have hW := walkC w g base cap c A bs _ h hb hl hw
    dsimp only [BlksTold, Option.isSome, Option.getD, errV] at hW
    dsimp only [Done, errV]
    have HW := Lib.hid hW
    clear hW hw hy h hb
    go_enter Try.func26, Try.ntmps26
    go_wp2_with fail
    with_reducible refine HW.out.mono ?_
    rintro e w2 ⟨A', c', rfl, _, hb2⟩
    have HB2 := Lib.hid hb2
    clear hb2
    go_wp2
    go_ret
    exact ⟨rfl, HB2.out⟩
  | some l =>
    obtain ⟨h184, hmem⟩ := walkB_mem hw
    obtain ⟨z, hz⟩ : ∃ z, List.replicate 184 (0 : UInt8) ++ bs.drop 184 = z := ⟨_, rfl⟩
    have hzl : z.length = bs.length := by rw [← hz, List.length_append, List.length_replicate, List.length_drop]; omega
    obtain rfl : some (l.foldl rebF z) = y := by rw [← hy, ← hz]; unfold rebuildB; rw [hw]; rfl
    have hW := walkC w g base cap c A bs _ h hb hl hw
    dsimp only [BlksTold, Option.isSome, Option.getD, errV] at hW
    dsimp only [Done, errV]
    have HCL := Lib.hid (fun (W : World) (hB : Below w.heap.size w W) => lclear_yes (h.below hB) hb hl h184 z hz)
    have HW := Lib.hid hW
    have HMEM := Lib.hid hmem
    have HAR := Lib.hid h
    have HBASE := Lib.hid hb
    have HZL := Lib.hid hzl
    obtain ⟨B0, hB0⟩ : ∃ B0, w.heap.size = B0 := ⟨_, rfl⟩
    have HB0 := Lib.hid hB0
    clear hW hw hy h hb hz hmem hzl hB0
    go_enter Try.func26, Try.ntmps26
    go_wp2_with fail
    with_reducible refine HW.out.mono ?_
    rintro e w2 ⟨A2, c2, rfl, ho2, hb2⟩
    have hcl : l.length ≤ c2 ∧ c2 ≤ 9223372036854775807 := by
      rcases ho2.2 with ⟨h', h0⟩ | ⟨_, _, _, h', _, _, h1, h2, _⟩
      · injection h' with _ _ e; rw [h0, e]; omega
      · injection h' with _ _ e; unfold maxLen at h2; omega
    have HO2 := Lib.hid ho2
    have HB2 := Lib.hid hb2
    have HAR2 := Lib.hid (HAR.out.below hb2)
    have HCL2 := Lib.hid (HCL.out w2 hb2)
    clear hb2 ho2 HW HCL
    go_wp2_with fail
    refine HCL2.out.mono ?_
    rintro e w3 ⟨rfl, hbe⟩
    have HBE := Lib.hid hbe
    clear hbe HCL2
    go_wp2
    go_loopw [19] (fun t wr => ∃ j : Nat, t = .int .i64 (j : Int) ∧ j ≤ l.length ∧ Became 74 g base cap A ((l.take j).foldl rebF z) w2 wr) (fun t _ => l.length - (intOf t).toNat)
    case atStart => exact ⟨0, rfl, Nat.zero_le _, HBE.out⟩
    case round =>
      obtain ⟨j, rfl, hj, hbe⟩ := hrel
      by_cases hlt : j < l.length
      · obtain ⟨x, hx⟩ : ∃ x, l[j]? = some x := ⟨l[j], List.getElem?_eq_getElem hlt⟩
        obtain ⟨b, o, rfl, hbb, hc⟩ := own_bks HO2.out rfl (by omega)
        have hbB : B0 ≤ b := by have := (HO2.out.lt b rfl).1; have := HB0.out; omega
        have hnf : ¬ foot g A b := fun hf => by
          have h1 : b < w.heap.size := HAR.out.foot_lt hf
          have := HB0.out
          omega
        obtain ⟨p0, p1, p2⟩ := hc j x hx
        have hg := HMEM.out x (List.mem_of_getElem? hx)
        obtain ⟨_, _, _, q3, _⟩ := getB_some hg
        obtain ⟨out, hout⟩ : ∃ out, (l.take j).foldl rebF z = out := ⟨_, rfl⟩
        have hol : out.length = bs.length := by rw [← hout, rebs_len _ (by have := HZL.out; omega)]; exact HZL.out
        have hnext : (l.take (j + 1)).foldl rebF z = rebF out x := by
          rw [List.take_add_one, hx, List.foldl_append, hout]; rfl
        rw [hout] at hbe
        have htc : Tch (foot g A) w2 wr := by obtain ⟨_, _, _, t, _⟩ := hbe; exact t
        have r0 := tch_cell htc p0 hbb hnf
        have r1 := tch_cell htc p1 hbb hnf
        have r2 := tch_cell htc p2 hbb hnf
        obtain ⟨xo, xs, xu⟩ := x
        dsimp only at p0 p1 p2 q3 r0 r1 r2
        have hq := (isSz_iff _).1 (getB_some hg).2.2.2.2.1
        dsimp only at hq
        obtain ⟨w4, hw4⟩ : ∃ w4, wr.alloc (.cells #[.int .i64 (xo : Int), .int .i64 (xs : Int), .bool xu] 65) = w4 := ⟨_, rfl⟩
        have hb4 : Below wr.heap.size wr w4 := by rw [← hw4]; exact (Below.refl _ _).alloc (Nat.le_refl _) _
        have n4 : w4.heap[wr.heap.size]? = some (.cells #[.int .i64 (xo : Int), .int .i64 (xs : Int), .bool xu] 65 (0, 0)) := by rw [← hw4]; exact heap_alloc_new wr _
        obtain ⟨⟨d0, d1, d2⟩, _⟩ := blk_cells n4
        have HBE4 := Lib.hid (became_below hbe hb4)
        have HW4 := Lib.hid hw4
        have HP := Lib.hid (became_put HBE4.out HBASE.out (by rw [hol]; exact hl) (xo : Int) (by omega))
        cases xu with
        | true =>
          have HN : Hid ((l.take (j + 1)).foldl rebF z = out) := hnext
          clear hnext hx hc hbe hout htc hg p0 p1 p2 hb4 n4 HP hw4 HAR HAR2
          go_wp2_with (first | (rw [HW4.out]) | fail)
          go_roundw
          case rel => exact ⟨j + 1, by go_num, by omega, by rw [HN.out]; exact HBE4.out⟩
          case measure => simp only [intOf]; omega
        | false =>
          have HN : Hid ((l.take (j + 1)).foldl rebF z = (putB out (xo : Int)).getD out) := hnext
          clear hnext hx hc hbe hout htc hg p0 p1 p2 hb4 n4 hw4 HAR HAR2
          go_wp2_with (first | (rw [HW4.out]) | fail)
          refine HP.out.mono ?_
          rintro e w5 ⟨⟨v, rfl⟩, hbe5⟩
          have HBE5 := Lib.hid hbe5
          clear hbe5 HP
          go_wp2
          go_roundw
          case rel => exact ⟨j + 1, by go_num, by omega, by rw [HN.out]; exact HBE5.out⟩
          case measure => simp only [intOf]; omega
      · obtain hjl : j = l.length := by omega
        rw [hjl, List.take_length] at hbe
        have HF := Lib.hid (hbe.after HB2.out)
        clear hbe hjl
        go_wp2
        go_ret
        exact ⟨rfl, HF.out⟩
end Go.Proofs.Ytbemaoncakcnjaa

/- What the program's check (layer 11) is to tell. -/
namespace Go.Proofs.Ytbemaoncakcnjaa
open Go.RowKit

def CheckC : Prop := ∀ (w : World) (g base cap c : Nat) (A : Option Addr) (bs : List UInt8) (x : Bool), Ar w 74 g base cap A c bs → base ≤ 4611686018427387904 → bs.length ≤ 16384 → checkB bs = x →
  Calls Try.prog 39 #[.pointer (some ⟨g, 0, none⟩)] w fun e w' => e = .returned (errV x 3) ∧ Below w.heap.size w w'
end Go.Proofs.Ytbemaoncakcnjaa
