/- Texts of mine, joined: Lst5, Lst6. -/
import Derived.Test.YtdhlfhpgfdpjbaaM6

/- The contract of the program's Take (genlst.py). -/
namespace Go.Proofs.Ytdhlfhpgfdpjbaa
open Go.RowKit

theorem memHas_mem {bs : List UInt8} {k v j u : Nat} (h : memHas bs k v j u = true) : memberB bs v (k : Int) = true := by
  unfold memHas at h
  rw [Bool.and_eq_true] at h
  exact h.1

section
variable {w : World} {g base cap c : Nat} {A : Option Addr} {bs : List UInt8}
set_option maxRecDepth 100000 in
set_option maxHeartbeats 2000000 in
theorem ltake_no (h : Ar w 60 g base cap A c bs) (hb : base ≤ 4611686018427387904) (n : Nat) (hn : bs.length = n) (hl : n ≤ 16384) (o : Int) (ho : -9223372036854775808 ≤ o ∧ o ≤ 9223372036854775807) (hk : freeI bs o < 0) :
    Calls Try.prog 10 #[.pointer (some ⟨g, 0, none⟩), .int .i64 o] w fun e w' => e = .returned (errV false 3) ∧ Below w.heap.size w w' := by
  have HF := Lib.hid (lfree_no h hb (by omega) o ho hk)
  clear h hk hn
  go_enter Try.func10, Try.ntmps10
  go_wp2_with fail
  with_reducible refine HF.out.mono ?_
  rintro e w1 ⟨rfl, hb1⟩
  have HB := Lib.hid hb1
  clear hb1
  go_wp2
  go_ret
  exact ⟨rfl, HB.out⟩

set_option maxRecDepth 100000 in
set_option maxHeartbeats 2000000 in
theorem ltake_first (h : Ar w 60 g base cap A c bs) (hb : base ≤ 4611686018427387904) (n : Nat) (hn : bs.length = n) (hl : n ≤ 16384) (q k f m p : Nat) (hk : freeI bs (q : Int) = (k : Int)) (hf : wordN bs (8 + 8 * k) = f) (hm : wordN bs (q + 8) = m) (hp : wordN bs (q + 16) = p) (hp0 : p = 0) (hfq : f ≠ q) :
    Calls Try.prog 10 #[.pointer (some ⟨g, 0, none⟩), .int .i64 (q : Int)] w fun e w' => e = .returned (errV false 3) ∧ Below w.heap.size w w' := by
  obtain ⟨q184, q32, k22⟩ := freeI_in hk
  have hfl : f < 18446744073709551616 := by rw [← hf]; exact wordN_lt _ _
  have hml : m < 18446744073709551616 := by rw [← hm]; exact wordN_lt _ _
  have hpl : p < 18446744073709551616 := by rw [← hp]; exact wordN_lt _ _
  have HF := Lib.hid (lfree_yes h hb (by omega) (q : Int) (by omega) k hk)
  have HFA := Lib.hid (fun W => lfirst_any W k k22)
  have HNF := Lib.hid (fun W (hB : Below w.heap.size w W) => lnumber_any (h.below hB) hb (by omega) (8 + 8 * (k : Int)) (8 + 8 * k) (by omega) (by omega) f hf)
  have HNM := Lib.hid (fun W (hB : Below w.heap.size w W) => lnumber_any (h.below hB) hb (by omega) ((q : Int) + 8) (q + 8) (by omega) (by omega) m hm)
  have HNP := Lib.hid (fun W (hB : Below w.heap.size w W) => lnumber_any (h.below hB) hb (by omega) ((q : Int) + 16) (q + 16) (by omega) (by omega) p hp)
  have hq2 : q + 32 ≤ n := by omega
  have hq3 : 184 ≤ q := by omega
  have s1 : ((p : Int) == 0) = true := by subst hp0; rfl
  have s1b : ((p : Int) != 0) = false := by subst hp0; rfl
  have s2 : ((f : Int) != (q : Int)) = true := by rw [bne_iff_ne]; omega
  clear h hk hf hn hm hp hp0
  go_enter Try.func10, Try.ntmps10
  go_wp2_with fail
  with_reducible refine HF.out.mono ?_
  rintro e w1 ⟨rfl, hb1⟩
  have HB := Lib.hid hb1
  clear hb1 HF
  go_wp2_with fail
  refine (HFA.out _).mono ?_
  rintro e w9 ⟨rfl, rfl⟩
  go_wp2_with fail
  refine (HNF.out _ HB.out).mono ?_
  rintro e w9 ⟨rfl, rfl⟩
  go_wp2_with fail
  refine (HNM.out _ HB.out).mono ?_
  rintro e w9 ⟨rfl, rfl⟩
  go_wp2_with fail
  refine (HNP.out _ HB.out).mono ?_
  rintro e w9 ⟨rfl, rfl⟩
  clear HFA HNF HNM HNP
  go_wp2
  go_ret
  exact ⟨rfl, HB.out⟩

set_option maxRecDepth 100000 in
set_option maxHeartbeats 2000000 in
theorem ltake_prev (h : Ar w 60 g base cap A c bs) (hb : base ≤ 4611686018427387904) (n : Nat) (hn : bs.length = n) (hl : n ≤ 16384) (q k f m p : Nat) (hk : freeI bs (q : Int) = (k : Int)) (hf : wordN bs (8 + 8 * k) = f) (hm : wordN bs (q + 8) = m) (hp : wordN bs (q + 16) = p) (hp0 : p ≠ 0) (hpm : memHas bs k p 8 q = false) :
    Calls Try.prog 10 #[.pointer (some ⟨g, 0, none⟩), .int .i64 (q : Int)] w fun e w' => e = .returned (errV false 3) ∧ Below w.heap.size w w' := by
  obtain ⟨q184, q32, k22⟩ := freeI_in hk
  have hfl : f < 18446744073709551616 := by rw [← hf]; exact wordN_lt _ _
  have hml : m < 18446744073709551616 := by rw [← hm]; exact wordN_lt _ _
  have hpl : p < 18446744073709551616 := by rw [← hp]; exact wordN_lt _ _
  have HF := Lib.hid (lfree_yes h hb (by omega) (q : Int) (by omega) k hk)
  have HFA := Lib.hid (fun W => lfirst_any W k k22)
  have HNF := Lib.hid (fun W (hB : Below w.heap.size w W) => lnumber_any (h.below hB) hb (by omega) (8 + 8 * (k : Int)) (8 + 8 * k) (by omega) (by omega) f hf)
  have HNM := Lib.hid (fun W (hB : Below w.heap.size w W) => lnumber_any (h.below hB) hb (by omega) ((q : Int) + 8) (q + 8) (by omega) (by omega) m hm)
  have HNP := Lib.hid (fun W (hB : Below w.heap.size w W) => lnumber_any (h.below hB) hb (by omega) ((q : Int) + 16) (q + 16) (by omega) (by omega) p hp)
  have hq2 : q + 32 ≤ n := by omega
  have hq3 : 184 ≤ q := by omega
  have s1 : ((p : Int) == 0) = false := by rw [beq_eq_false_iff_ne]; omega
  have s1b : ((p : Int) != 0) = true := by rw [bne_iff_ne]; omega
  have HPM := Lib.hid (fun W (hB : Below w.heap.size w W) => lhas_any (h.below hB) hb (by omega) k p 8 q k22 hpl (by omega) _ hpm)
  clear h hk hf hn hm hp hpm
  go_enter Try.func10, Try.ntmps10
  go_wp2_with fail
  with_reducible refine HF.out.mono ?_
  rintro e w1 ⟨rfl, hb1⟩
  have HB := Lib.hid hb1
  clear hb1 HF
  go_wp2_with fail
  refine (HFA.out _).mono ?_
  rintro e w9 ⟨rfl, rfl⟩
  go_wp2_with fail
  refine (HNF.out _ HB.out).mono ?_
  rintro e w9 ⟨rfl, rfl⟩
  go_wp2_with fail
  refine (HNM.out _ HB.out).mono ?_
  rintro e w9 ⟨rfl, rfl⟩
  go_wp2_with fail
  refine (HNP.out _ HB.out).mono ?_
  rintro e w9 ⟨rfl, rfl⟩
  clear HFA HNF HNM HNP
  go_wp2_with fail
  refine (HPM.out _ HB.out).mono ?_
  rintro e w2 ⟨rfl, hb2⟩
  have HB2 := Lib.hid (HB.out.trans (hb2.mono HB.out.size))
  clear hb2 HPM HB
  go_wp2
  go_ret
  exact ⟨rfl, HB2.out⟩

set_option maxRecDepth 100000 in
set_option maxHeartbeats 2000000 in
theorem ltake_next0 (h : Ar w 60 g base cap A c bs) (hb : base ≤ 4611686018427387904) (n : Nat) (hn : bs.length = n) (hl : n ≤ 16384) (q k f m p : Nat) (hk : freeI bs (q : Int) = (k : Int)) (hf : wordN bs (8 + 8 * k) = f) (hm : wordN bs (q + 8) = m) (hp : wordN bs (q + 16) = p) (hp0 : p = 0) (hfq : f = q) (hn0 : m ≠ 0) (hnm : memHas bs k m 16 q = false) :
    Calls Try.prog 10 #[.pointer (some ⟨g, 0, none⟩), .int .i64 (q : Int)] w fun e w' => e = .returned (errV false 3) ∧ Below w.heap.size w w' := by
  obtain ⟨q184, q32, k22⟩ := freeI_in hk
  have hfl : f < 18446744073709551616 := by rw [← hf]; exact wordN_lt _ _
  have hml : m < 18446744073709551616 := by rw [← hm]; exact wordN_lt _ _
  have hpl : p < 18446744073709551616 := by rw [← hp]; exact wordN_lt _ _
  have HF := Lib.hid (lfree_yes h hb (by omega) (q : Int) (by omega) k hk)
  have HFA := Lib.hid (fun W => lfirst_any W k k22)
  have HNF := Lib.hid (fun W (hB : Below w.heap.size w W) => lnumber_any (h.below hB) hb (by omega) (8 + 8 * (k : Int)) (8 + 8 * k) (by omega) (by omega) f hf)
  have HNM := Lib.hid (fun W (hB : Below w.heap.size w W) => lnumber_any (h.below hB) hb (by omega) ((q : Int) + 8) (q + 8) (by omega) (by omega) m hm)
  have HNP := Lib.hid (fun W (hB : Below w.heap.size w W) => lnumber_any (h.below hB) hb (by omega) ((q : Int) + 16) (q + 16) (by omega) (by omega) p hp)
  have hq2 : q + 32 ≤ n := by omega
  have hq3 : 184 ≤ q := by omega
  have s1 : ((p : Int) == 0) = true := by subst hp0; rfl
  have s1b : ((p : Int) != 0) = false := by subst hp0; rfl
  have s2 : ((f : Int) != (q : Int)) = false := by rw [bne_eq_false_iff_eq]; omega
  have HNH := Lib.hid (fun W (hB : Below w.heap.size w W) => lhas_any (h.below hB) hb (by omega) k m 16 q k22 hml (by omega) _ hnm)
  have s3 : ((m : Int) != 0) = true := by rw [bne_iff_ne]; omega
  clear h hk hf hn hm hp hnm hp0 hfq
  go_enter Try.func10, Try.ntmps10
  go_wp2_with fail
  with_reducible refine HF.out.mono ?_
  rintro e w1 ⟨rfl, hb1⟩
  have HB := Lib.hid hb1
  clear hb1 HF
  go_wp2_with fail
  refine (HFA.out _).mono ?_
  rintro e w9 ⟨rfl, rfl⟩
  go_wp2_with fail
  refine (HNF.out _ HB.out).mono ?_
  rintro e w9 ⟨rfl, rfl⟩
  go_wp2_with fail
  refine (HNM.out _ HB.out).mono ?_
  rintro e w9 ⟨rfl, rfl⟩
  go_wp2_with fail
  refine (HNP.out _ HB.out).mono ?_
  rintro e w9 ⟨rfl, rfl⟩
  clear HFA HNF HNM HNP
  go_wp2_with fail
  refine (HNH.out _ HB.out).mono ?_
  rintro e w3 ⟨rfl, hb3⟩
  have HB3 := Lib.hid (HB.out.trans (hb3.mono HB.out.size))
  clear hb3 HNH HB
  go_wp2
  go_ret
  exact ⟨rfl, HB3.out⟩

set_option maxRecDepth 100000 in
set_option maxHeartbeats 2000000 in
theorem ltake_next1 (h : Ar w 60 g base cap A c bs) (hb : base ≤ 4611686018427387904) (n : Nat) (hn : bs.length = n) (hl : n ≤ 16384) (q k f m p : Nat) (hk : freeI bs (q : Int) = (k : Int)) (hf : wordN bs (8 + 8 * k) = f) (hm : wordN bs (q + 8) = m) (hp : wordN bs (q + 16) = p) (hp0 : p ≠ 0) (hpm : memHas bs k p 8 q = true) (hn0 : m ≠ 0) (hnm : memHas bs k m 16 q = false) :
    Calls Try.prog 10 #[.pointer (some ⟨g, 0, none⟩), .int .i64 (q : Int)] w fun e w' => e = .returned (errV false 3) ∧ Below w.heap.size w w' := by
  obtain ⟨q184, q32, k22⟩ := freeI_in hk
  have hfl : f < 18446744073709551616 := by rw [← hf]; exact wordN_lt _ _
  have hml : m < 18446744073709551616 := by rw [← hm]; exact wordN_lt _ _
  have hpl : p < 18446744073709551616 := by rw [← hp]; exact wordN_lt _ _
  have HF := Lib.hid (lfree_yes h hb (by omega) (q : Int) (by omega) k hk)
  have HFA := Lib.hid (fun W => lfirst_any W k k22)
  have HNF := Lib.hid (fun W (hB : Below w.heap.size w W) => lnumber_any (h.below hB) hb (by omega) (8 + 8 * (k : Int)) (8 + 8 * k) (by omega) (by omega) f hf)
  have HNM := Lib.hid (fun W (hB : Below w.heap.size w W) => lnumber_any (h.below hB) hb (by omega) ((q : Int) + 8) (q + 8) (by omega) (by omega) m hm)
  have HNP := Lib.hid (fun W (hB : Below w.heap.size w W) => lnumber_any (h.below hB) hb (by omega) ((q : Int) + 16) (q + 16) (by omega) (by omega) p hp)
  have hq2 : q + 32 ≤ n := by omega
  have hq3 : 184 ≤ q := by omega
  have s1 : ((p : Int) == 0) = false := by rw [beq_eq_false_iff_ne]; omega
  have s1b : ((p : Int) != 0) = true := by rw [bne_iff_ne]; omega
  have HPM := Lib.hid (fun W (hB : Below w.heap.size w W) => lhas_any (h.below hB) hb (by omega) k p 8 q k22 hpl (by omega) _ hpm)
  have HNH := Lib.hid (fun W (hB : Below w.heap.size w W) => lhas_any (h.below hB) hb (by omega) k m 16 q k22 hml (by omega) _ hnm)
  have s3 : ((m : Int) != 0) = true := by rw [bne_iff_ne]; omega
  clear h hk hf hn hm hp hpm hnm
  go_enter Try.func10, Try.ntmps10
  go_wp2_with fail
  with_reducible refine HF.out.mono ?_
  rintro e w1 ⟨rfl, hb1⟩
  have HB := Lib.hid hb1
  clear hb1 HF
  go_wp2_with fail
  refine (HFA.out _).mono ?_
  rintro e w9 ⟨rfl, rfl⟩
  go_wp2_with fail
  refine (HNF.out _ HB.out).mono ?_
  rintro e w9 ⟨rfl, rfl⟩
  go_wp2_with fail
  refine (HNM.out _ HB.out).mono ?_
  rintro e w9 ⟨rfl, rfl⟩
  go_wp2_with fail
  refine (HNP.out _ HB.out).mono ?_
  rintro e w9 ⟨rfl, rfl⟩
  clear HFA HNF HNM HNP
  go_wp2_with fail
  refine (HPM.out _ HB.out).mono ?_
  rintro e w2 ⟨rfl, hb2⟩
  have HB2 := Lib.hid (HB.out.trans (hb2.mono HB.out.size))
  clear hb2 HPM HB
  go_wp2_with fail
  refine (HNH.out _ HB2.out).mono ?_
  rintro e w3 ⟨rfl, hb3⟩
  have HB3 := Lib.hid (HB2.out.trans (hb3.mono HB2.out.size))
  clear hb3 HNH HB2
  go_wp2
  go_ret
  exact ⟨rfl, HB3.out⟩

set_option maxRecDepth 100000 in
set_option maxHeartbeats 2000000 in
theorem ltake_o00 (h : Ar w 60 g base cap A c bs) (hb : base ≤ 4611686018427387904) (n : Nat) (hn : bs.length = n) (hl : n ≤ 16384) (q k f m p : Nat) (hk : freeI bs (q : Int) = (k : Int)) (hf : wordN bs (8 + 8 * k) = f) (hm : wordN bs (q + 8) = m) (hp : wordN bs (q + 16) = p) (hp0 : p = 0) (hfq : f = q) (hn0 : m = 0) :
    Calls Try.prog 10 #[.pointer (some ⟨g, 0, none⟩), .int .i64 (q : Int)] w fun e w' => e = .returned (errV true 3) ∧ Became 60 g base cap A (markB (lyN bs (8 + 8 * k) m) k) w w' := by
  obtain ⟨q184, q32, k22⟩ := freeI_in hk
  have hfl : f < 18446744073709551616 := by rw [← hf]; exact wordN_lt _ _
  have hml : m < 18446744073709551616 := by rw [← hm]; exact wordN_lt _ _
  have hpl : p < 18446744073709551616 := by rw [← hp]; exact wordN_lt _ _
  have HF := Lib.hid (lfree_yes h hb (by omega) (q : Int) (by omega) k hk)
  have HFA := Lib.hid (fun W => lfirst_any W k k22)
  have HNF := Lib.hid (fun W (hB : Below w.heap.size w W) => lnumber_any (h.below hB) hb (by omega) (8 + 8 * (k : Int)) (8 + 8 * k) (by omega) (by omega) f hf)
  have HNM := Lib.hid (fun W (hB : Below w.heap.size w W) => lnumber_any (h.below hB) hb (by omega) ((q : Int) + 8) (q + 8) (by omega) (by omega) m hm)
  have HNP := Lib.hid (fun W (hB : Below w.heap.size w W) => lnumber_any (h.below hB) hb (by omega) ((q : Int) + 16) (q + 16) (by omega) (by omega) p hp)
  have hq2 : q + 32 ≤ n := by omega
  have hq3 : 184 ≤ q := by omega
  have s1 : ((p : Int) == 0) = true := by subst hp0; rfl
  have s1b : ((p : Int) != 0) = false := by subst hp0; rfl
  have s2 : ((f : Int) != (q : Int)) = false := by rw [bne_eq_false_iff_eq]; omega
  have s3 : ((m : Int) != 0) = false := by subst hn0; rfl
  have s4 : ((f : Int) == (q : Int)) = true := by rw [beq_iff_eq]; omega
  have HBO := Lib.hid (fun W (hB : Below w.heap.size w W) => became_of h hB)
  have HSF := Lib.hid (fun W (hB : Became 60 g base cap A bs w W) => became_first hB hb n hn hl (by omega) k k22 m (by omega))
  clear h hk hf hn hm hp hp0 hfq hn0
  go_enter Try.func10, Try.ntmps10
  go_wp2_with fail
  with_reducible refine HF.out.mono ?_
  rintro e w1 ⟨rfl, hb1⟩
  have HB := Lib.hid hb1
  clear hb1 HF
  go_wp2_with fail
  refine (HFA.out _).mono ?_
  rintro e w9 ⟨rfl, rfl⟩
  go_wp2_with fail
  refine (HNF.out _ HB.out).mono ?_
  rintro e w9 ⟨rfl, rfl⟩
  go_wp2_with fail
  refine (HNM.out _ HB.out).mono ?_
  rintro e w9 ⟨rfl, rfl⟩
  go_wp2_with fail
  refine (HNP.out _ HB.out).mono ?_
  rintro e w9 ⟨rfl, rfl⟩
  clear HFA HNF HNM HNP
  have G0 := Lib.hid (HBO.out _ HB.out)
  clear HBO HB
  go_wp2_with fail
  refine (HSF.out _ G0.out).mono ?_
  rintro e x9 ⟨rfl, bb⟩
  have G9 := Lib.hid bb
  clear bb HSF G0
  go_wp2
  go_ret
  exact ⟨rfl, G9.out⟩

set_option maxRecDepth 100000 in
set_option maxHeartbeats 2000000 in
theorem ltake_o01 (h : Ar w 60 g base cap A c bs) (hb : base ≤ 4611686018427387904) (n : Nat) (hn : bs.length = n) (hl : n ≤ 16384) (q k f m p : Nat) (hk : freeI bs (q : Int) = (k : Int)) (hf : wordN bs (8 + 8 * k) = f) (hm : wordN bs (q + 8) = m) (hp : wordN bs (q + 16) = p) (hp0 : p = 0) (hfq : f = q) (hn0 : m ≠ 0) (hnm : memHas bs k m 16 q = true) :
    Calls Try.prog 10 #[.pointer (some ⟨g, 0, none⟩), .int .i64 (q : Int)] w fun e w' => e = .returned (errV true 3) ∧ Became 60 g base cap A (markB (lyN (lyN bs (m + 16) p) (8 + 8 * k) m) k) w w' := by
  obtain ⟨q184, q32, k22⟩ := freeI_in hk
  have hfl : f < 18446744073709551616 := by rw [← hf]; exact wordN_lt _ _
  have hml : m < 18446744073709551616 := by rw [← hm]; exact wordN_lt _ _
  have hpl : p < 18446744073709551616 := by rw [← hp]; exact wordN_lt _ _
  have HF := Lib.hid (lfree_yes h hb (by omega) (q : Int) (by omega) k hk)
  have HFA := Lib.hid (fun W => lfirst_any W k k22)
  have HNF := Lib.hid (fun W (hB : Below w.heap.size w W) => lnumber_any (h.below hB) hb (by omega) (8 + 8 * (k : Int)) (8 + 8 * k) (by omega) (by omega) f hf)
  have HNM := Lib.hid (fun W (hB : Below w.heap.size w W) => lnumber_any (h.below hB) hb (by omega) ((q : Int) + 8) (q + 8) (by omega) (by omega) m hm)
  have HNP := Lib.hid (fun W (hB : Below w.heap.size w W) => lnumber_any (h.below hB) hb (by omega) ((q : Int) + 16) (q + 16) (by omega) (by omega) p hp)
  have hq2 : q + 32 ≤ n := by omega
  have hq3 : 184 ≤ q := by omega
  have s1 : ((p : Int) == 0) = true := by subst hp0; rfl
  have s1b : ((p : Int) != 0) = false := by subst hp0; rfl
  have s2 : ((f : Int) != (q : Int)) = false := by rw [bne_eq_false_iff_eq]; omega
  have HNH := Lib.hid (fun W (hB : Below w.heap.size w W) => lhas_any (h.below hB) hb (by omega) k m 16 q k22 hml (by omega) _ hnm)
  have s3 : ((m : Int) != 0) = true := by rw [bne_iff_ne]; omega
  have s4 : ((f : Int) == (q : Int)) = true := by rw [beq_iff_eq]; omega
  have hnin := memberB_in (memHas_mem hnm)
  have hn16 : m + 32 ≤ n := by omega
  have HBO := Lib.hid (fun W (hB : Below w.heap.size w W) => became_of h hB)
  obtain ⟨b1, hb1⟩ : ∃ b, lyN bs (m + 16) p = b := ⟨_, rfl⟩
  have nb1 : b1.length = n := by rw [← hb1, lyN_length _ _ _ (by omega)]; exact hn
  have HS1 := fun W (hB : Became 60 g base cap A bs w W) => became_set hB hb (by omega) ((m : Int) + 16) (m + 16) (by omega) (by omega) p hpl
  rw [hb1] at HS1 ⊢
  have HS1 := Lib.hid HS1
  have HSF := Lib.hid (fun W (hB : Became 60 g base cap A b1 w W) => became_first hB hb n nb1 hl (by omega) k k22 m (by omega))
  clear hb1 nb1
  clear h hk hf hn hm hp hnm hp0 hfq
  go_enter Try.func10, Try.ntmps10
  go_wp2_with fail
  with_reducible refine HF.out.mono ?_
  rintro e w1 ⟨rfl, hb1⟩
  have HB := Lib.hid hb1
  clear hb1 HF
  go_wp2_with fail
  refine (HFA.out _).mono ?_
  rintro e w9 ⟨rfl, rfl⟩
  go_wp2_with fail
  refine (HNF.out _ HB.out).mono ?_
  rintro e w9 ⟨rfl, rfl⟩
  go_wp2_with fail
  refine (HNM.out _ HB.out).mono ?_
  rintro e w9 ⟨rfl, rfl⟩
  go_wp2_with fail
  refine (HNP.out _ HB.out).mono ?_
  rintro e w9 ⟨rfl, rfl⟩
  clear HFA HNF HNM HNP
  go_wp2_with fail
  refine (HNH.out _ HB.out).mono ?_
  rintro e w3 ⟨rfl, hb3⟩
  have HB3 := Lib.hid (HB.out.trans (hb3.mono HB.out.size))
  clear hb3 HNH HB
  have G0 := Lib.hid (HBO.out _ HB3.out)
  clear HBO HB3
  go_wp2_with fail
  refine (HS1.out _ G0.out).mono ?_
  rintro e x1 ⟨rfl, bb⟩
  have G1 := Lib.hid bb
  clear bb HS1 G0
  go_wp2_with fail
  refine (HSF.out _ G1.out).mono ?_
  rintro e x9 ⟨rfl, bb⟩
  have G9 := Lib.hid bb
  clear bb HSF G1
  go_wp2
  go_ret
  exact ⟨rfl, G9.out⟩

set_option maxRecDepth 100000 in
set_option maxHeartbeats 2000000 in
theorem ltake_o10 (h : Ar w 60 g base cap A c bs) (hb : base ≤ 4611686018427387904) (n : Nat) (hn : bs.length = n) (hl : n ≤ 16384) (q k f m p : Nat) (hk : freeI bs (q : Int) = (k : Int)) (hf : wordN bs (8 + 8 * k) = f) (hm : wordN bs (q + 8) = m) (hp : wordN bs (q + 16) = p) (hp0 : p ≠ 0) (hpm : memHas bs k p 8 q = true) (hn0 : m = 0) (hfq : f = q) :
    Calls Try.prog 10 #[.pointer (some ⟨g, 0, none⟩), .int .i64 (q : Int)] w fun e w' => e = .returned (errV true 3) ∧ Became 60 g base cap A (markB (lyN (lyN bs (p + 8) m) (8 + 8 * k) m) k) w w' := by
  obtain ⟨q184, q32, k22⟩ := freeI_in hk
  have hfl : f < 18446744073709551616 := by rw [← hf]; exact wordN_lt _ _
  have hml : m < 18446744073709551616 := by rw [← hm]; exact wordN_lt _ _
  have hpl : p < 18446744073709551616 := by rw [← hp]; exact wordN_lt _ _
  have HF := Lib.hid (lfree_yes h hb (by omega) (q : Int) (by omega) k hk)
  have HFA := Lib.hid (fun W => lfirst_any W k k22)
  have HNF := Lib.hid (fun W (hB : Below w.heap.size w W) => lnumber_any (h.below hB) hb (by omega) (8 + 8 * (k : Int)) (8 + 8 * k) (by omega) (by omega) f hf)
  have HNM := Lib.hid (fun W (hB : Below w.heap.size w W) => lnumber_any (h.below hB) hb (by omega) ((q : Int) + 8) (q + 8) (by omega) (by omega) m hm)
  have HNP := Lib.hid (fun W (hB : Below w.heap.size w W) => lnumber_any (h.below hB) hb (by omega) ((q : Int) + 16) (q + 16) (by omega) (by omega) p hp)
  have hq2 : q + 32 ≤ n := by omega
  have hq3 : 184 ≤ q := by omega
  have s1 : ((p : Int) == 0) = false := by rw [beq_eq_false_iff_ne]; omega
  have s1b : ((p : Int) != 0) = true := by rw [bne_iff_ne]; omega
  have HPM := Lib.hid (fun W (hB : Below w.heap.size w W) => lhas_any (h.below hB) hb (by omega) k p 8 q k22 hpl (by omega) _ hpm)
  have s3 : ((m : Int) != 0) = false := by subst hn0; rfl
  have s4 : ((f : Int) == (q : Int)) = true := by rw [beq_iff_eq]; omega
  have hpin := memberB_in (memHas_mem hpm)
  have hp8 : p + 32 ≤ n := by omega
  have HBO := Lib.hid (fun W (hB : Below w.heap.size w W) => became_of h hB)
  obtain ⟨b1, hb1⟩ : ∃ b, lyN bs (p + 8) m = b := ⟨_, rfl⟩
  have nb1 : b1.length = n := by rw [← hb1, lyN_length _ _ _ (by omega)]; exact hn
  have HS1 := fun W (hB : Became 60 g base cap A bs w W) => became_set hB hb (by omega) ((p : Int) + 8) (p + 8) (by omega) (by omega) m hml
  rw [hb1] at HS1 ⊢
  have HS1 := Lib.hid HS1
  have HSF := Lib.hid (fun W (hB : Became 60 g base cap A b1 w W) => became_first hB hb n nb1 hl (by omega) k k22 m (by omega))
  clear hb1 nb1
  clear h hk hf hn hm hp hpm hfq hn0
  go_enter Try.func10, Try.ntmps10
  go_wp2_with fail
  with_reducible refine HF.out.mono ?_
  rintro e w1 ⟨rfl, hb1⟩
  have HB := Lib.hid hb1
  clear hb1 HF
  go_wp2_with fail
  refine (HFA.out _).mono ?_
  rintro e w9 ⟨rfl, rfl⟩
  go_wp2_with fail
  refine (HNF.out _ HB.out).mono ?_
  rintro e w9 ⟨rfl, rfl⟩
  go_wp2_with fail
  refine (HNM.out _ HB.out).mono ?_
  rintro e w9 ⟨rfl, rfl⟩
  go_wp2_with fail
  refine (HNP.out _ HB.out).mono ?_
  rintro e w9 ⟨rfl, rfl⟩
  clear HFA HNF HNM HNP
  go_wp2_with fail
  refine (HPM.out _ HB.out).mono ?_
  rintro e w2 ⟨rfl, hb2⟩
  have HB2 := Lib.hid (HB.out.trans (hb2.mono HB.out.size))
  clear hb2 HPM HB
  have G0 := Lib.hid (HBO.out _ HB2.out)
  clear HBO HB2
  go_wp2_with fail
  refine (HS1.out _ G0.out).mono ?_
  rintro e x1 ⟨rfl, bb⟩
  have G1 := Lib.hid bb
  clear bb HS1 G0
  go_wp2_with fail
  refine (HSF.out _ G1.out).mono ?_
  rintro e x9 ⟨rfl, bb⟩
  have G9 := Lib.hid bb
  clear bb HSF G1
  go_wp2
  go_ret
  exact ⟨rfl, G9.out⟩

set_option maxRecDepth 100000 in
set_option maxHeartbeats 2000000 in
theorem ltake_o11 (h : Ar w 60 g base cap A c bs) (hb : base ≤ 4611686018427387904) (n : Nat) (hn : bs.length = n) (hl : n ≤ 16384) (q k f m p : Nat) (hk : freeI bs (q : Int) = (k : Int)) (hf : wordN bs (8 + 8 * k) = f) (hm : wordN bs (q + 8) = m) (hp : wordN bs (q + 16) = p) (hp0 : p ≠ 0) (hpm : memHas bs k p 8 q = true) (hn0 : m ≠ 0) (hnm : memHas bs k m 16 q = true) (hfq : f = q) :
    Calls Try.prog 10 #[.pointer (some ⟨g, 0, none⟩), .int .i64 (q : Int)] w fun e w' => e = .returned (errV true 3) ∧ Became 60 g base cap A (markB (lyN (lyN (lyN bs (p + 8) m) (m + 16) p) (8 + 8 * k) m) k) w w' := by
  obtain ⟨q184, q32, k22⟩ := freeI_in hk
  have hfl : f < 18446744073709551616 := by rw [← hf]; exact wordN_lt _ _
  have hml : m < 18446744073709551616 := by rw [← hm]; exact wordN_lt _ _
  have hpl : p < 18446744073709551616 := by rw [← hp]; exact wordN_lt _ _
  have HF := Lib.hid (lfree_yes h hb (by omega) (q : Int) (by omega) k hk)
  have HFA := Lib.hid (fun W => lfirst_any W k k22)
  have HNF := Lib.hid (fun W (hB : Below w.heap.size w W) => lnumber_any (h.below hB) hb (by omega) (8 + 8 * (k : Int)) (8 + 8 * k) (by omega) (by omega) f hf)
  have HNM := Lib.hid (fun W (hB : Below w.heap.size w W) => lnumber_any (h.below hB) hb (by omega) ((q : Int) + 8) (q + 8) (by omega) (by omega) m hm)
  have HNP := Lib.hid (fun W (hB : Below w.heap.size w W) => lnumber_any (h.below hB) hb (by omega) ((q : Int) + 16) (q + 16) (by omega) (by omega) p hp)
  have hq2 : q + 32 ≤ n := by omega
  have hq3 : 184 ≤ q := by omega
  have s1 : ((p : Int) == 0) = false := by rw [beq_eq_false_iff_ne]; omega
  have s1b : ((p : Int) != 0) = true := by rw [bne_iff_ne]; omega
  have HPM := Lib.hid (fun W (hB : Below w.heap.size w W) => lhas_any (h.below hB) hb (by omega) k p 8 q k22 hpl (by omega) _ hpm)
  have HNH := Lib.hid (fun W (hB : Below w.heap.size w W) => lhas_any (h.below hB) hb (by omega) k m 16 q k22 hml (by omega) _ hnm)
  have s3 : ((m : Int) != 0) = true := by rw [bne_iff_ne]; omega
  have s4 : ((f : Int) == (q : Int)) = true := by rw [beq_iff_eq]; omega
  have hpin := memberB_in (memHas_mem hpm)
  have hp8 : p + 32 ≤ n := by omega
  have hnin := memberB_in (memHas_mem hnm)
  have hn16 : m + 32 ≤ n := by omega
  have HBO := Lib.hid (fun W (hB : Below w.heap.size w W) => became_of h hB)
  obtain ⟨b1, hb1⟩ : ∃ b, lyN bs (p + 8) m = b := ⟨_, rfl⟩
  have nb1 : b1.length = n := by rw [← hb1, lyN_length _ _ _ (by omega)]; exact hn
  have HS1 := fun W (hB : Became 60 g base cap A bs w W) => became_set hB hb (by omega) ((p : Int) + 8) (p + 8) (by omega) (by omega) m hml
  rw [hb1] at HS1 ⊢
  have HS1 := Lib.hid HS1
  obtain ⟨b2, hb2⟩ : ∃ b, lyN b1 (m + 16) p = b := ⟨_, rfl⟩
  have nb2 : b2.length = n := by rw [← hb2, lyN_length _ _ _ (by omega)]; exact nb1
  have HS2 := fun W (hB : Became 60 g base cap A b1 w W) => became_set hB hb (by omega) ((m : Int) + 16) (m + 16) (by omega) (by omega) p hpl
  rw [hb2] at HS2 ⊢
  have HS2 := Lib.hid HS2
  have HSF := Lib.hid (fun W (hB : Became 60 g base cap A b2 w W) => became_first hB hb n nb2 hl (by omega) k k22 m (by omega))
  clear hb1 nb1 hb2 nb2
  clear h hk hf hn hm hp hpm hnm hfq
  go_enter Try.func10, Try.ntmps10
  go_wp2_with fail
  with_reducible refine HF.out.mono ?_
  rintro e w1 ⟨rfl, hb1⟩
  have HB := Lib.hid hb1
  clear hb1 HF
  go_wp2_with fail
  refine (HFA.out _).mono ?_
  rintro e w9 ⟨rfl, rfl⟩
  go_wp2_with fail
  refine (HNF.out _ HB.out).mono ?_
  rintro e w9 ⟨rfl, rfl⟩
  go_wp2_with fail
  refine (HNM.out _ HB.out).mono ?_
  rintro e w9 ⟨rfl, rfl⟩
  go_wp2_with fail
  refine (HNP.out _ HB.out).mono ?_
  rintro e w9 ⟨rfl, rfl⟩
  clear HFA HNF HNM HNP
  go_wp2_with fail
  refine (HPM.out _ HB.out).mono ?_
  rintro e w2 ⟨rfl, hb2⟩
  have HB2 := Lib.hid (HB.out.trans (hb2.mono HB.out.size))
  clear hb2 HPM HB
  go_wp2_with fail
  refine (HNH.out _ HB2.out).mono ?_
  rintro e w3 ⟨rfl, hb3⟩
  have HB3 := Lib.hid (HB2.out.trans (hb3.mono HB2.out.size))
  clear hb3 HNH HB2
  have G0 := Lib.hid (HBO.out _ HB3.out)
  clear HBO HB3
  go_wp2_with fail
  refine (HS1.out _ G0.out).mono ?_
  rintro e x1 ⟨rfl, bb⟩
  have G1 := Lib.hid bb
  clear bb HS1 G0
  go_wp2_with fail
  refine (HS2.out _ G1.out).mono ?_
  rintro e x2 ⟨rfl, bb⟩
  have G2 := Lib.hid bb
  clear bb HS2 G1
  go_wp2_with fail
  refine (HSF.out _ G2.out).mono ?_
  rintro e x9 ⟨rfl, bb⟩
  have G9 := Lib.hid bb
  clear bb HSF G2
  go_wp2
  go_ret
  exact ⟨rfl, G9.out⟩

set_option maxRecDepth 100000 in
set_option maxHeartbeats 2000000 in
theorem ltake_k10 (h : Ar w 60 g base cap A c bs) (hb : base ≤ 4611686018427387904) (n : Nat) (hn : bs.length = n) (hl : n ≤ 16384) (q k f m p : Nat) (hk : freeI bs (q : Int) = (k : Int)) (hf : wordN bs (8 + 8 * k) = f) (hm : wordN bs (q + 8) = m) (hp : wordN bs (q + 16) = p) (hp0 : p ≠ 0) (hpm : memHas bs k p 8 q = true) (hn0 : m = 0) (hfq : f ≠ q) :
    Calls Try.prog 10 #[.pointer (some ⟨g, 0, none⟩), .int .i64 (q : Int)] w fun e w' => e = .returned (errV true 3) ∧ Became 60 g base cap A (markB (lyN (lyN bs (p + 8) m) (8 + 8 * k) f) k) w w' := by
  obtain ⟨q184, q32, k22⟩ := freeI_in hk
  have hfl : f < 18446744073709551616 := by rw [← hf]; exact wordN_lt _ _
  have hml : m < 18446744073709551616 := by rw [← hm]; exact wordN_lt _ _
  have hpl : p < 18446744073709551616 := by rw [← hp]; exact wordN_lt _ _
  have HF := Lib.hid (lfree_yes h hb (by omega) (q : Int) (by omega) k hk)
  have HFA := Lib.hid (fun W => lfirst_any W k k22)
  have HNF := Lib.hid (fun W (hB : Below w.heap.size w W) => lnumber_any (h.below hB) hb (by omega) (8 + 8 * (k : Int)) (8 + 8 * k) (by omega) (by omega) f hf)
  have HNM := Lib.hid (fun W (hB : Below w.heap.size w W) => lnumber_any (h.below hB) hb (by omega) ((q : Int) + 8) (q + 8) (by omega) (by omega) m hm)
  have HNP := Lib.hid (fun W (hB : Below w.heap.size w W) => lnumber_any (h.below hB) hb (by omega) ((q : Int) + 16) (q + 16) (by omega) (by omega) p hp)
  have hq2 : q + 32 ≤ n := by omega
  have hq3 : 184 ≤ q := by omega
  have s1 : ((p : Int) == 0) = false := by rw [beq_eq_false_iff_ne]; omega
  have s1b : ((p : Int) != 0) = true := by rw [bne_iff_ne]; omega
  have HPM := Lib.hid (fun W (hB : Below w.heap.size w W) => lhas_any (h.below hB) hb (by omega) k p 8 q k22 hpl (by omega) _ hpm)
  have s3 : ((m : Int) != 0) = false := by subst hn0; rfl
  have s4 : ((f : Int) == (q : Int)) = false := by rw [beq_eq_false_iff_ne]; omega
  have hpin := memberB_in (memHas_mem hpm)
  have hp8 : p + 32 ≤ n := by omega
  have HBO := Lib.hid (fun W (hB : Below w.heap.size w W) => became_of h hB)
  obtain ⟨b1, hb1⟩ : ∃ b, lyN bs (p + 8) m = b := ⟨_, rfl⟩
  have nb1 : b1.length = n := by rw [← hb1, lyN_length _ _ _ (by omega)]; exact hn
  have HS1 := fun W (hB : Became 60 g base cap A bs w W) => became_set hB hb (by omega) ((p : Int) + 8) (p + 8) (by omega) (by omega) m hml
  rw [hb1] at HS1 ⊢
  have HS1 := Lib.hid HS1
  have HSF := Lib.hid (fun W (hB : Became 60 g base cap A b1 w W) => became_first hB hb n nb1 hl (by omega) k k22 f (by omega))
  clear hb1 nb1
  clear h hk hf hn hm hp hpm hn0
  go_enter Try.func10, Try.ntmps10
  go_wp2_with fail
  with_reducible refine HF.out.mono ?_
  rintro e w1 ⟨rfl, hb1⟩
  have HB := Lib.hid hb1
  clear hb1 HF
  go_wp2_with fail
  refine (HFA.out _).mono ?_
  rintro e w9 ⟨rfl, rfl⟩
  go_wp2_with fail
  refine (HNF.out _ HB.out).mono ?_
  rintro e w9 ⟨rfl, rfl⟩
  go_wp2_with fail
  refine (HNM.out _ HB.out).mono ?_
  rintro e w9 ⟨rfl, rfl⟩
  go_wp2_with fail
  refine (HNP.out _ HB.out).mono ?_
  rintro e w9 ⟨rfl, rfl⟩
  clear HFA HNF HNM HNP
  go_wp2_with fail
  refine (HPM.out _ HB.out).mono ?_
  rintro e w2 ⟨rfl, hb2⟩
  have HB2 := Lib.hid (HB.out.trans (hb2.mono HB.out.size))
  clear hb2 HPM HB
  have G0 := Lib.hid (HBO.out _ HB2.out)
  clear HBO HB2
  go_wp2_with fail
  refine (HS1.out _ G0.out).mono ?_
  rintro e x1 ⟨rfl, bb⟩
  have G1 := Lib.hid bb
  clear bb HS1 G0
  go_wp2_with fail
  refine (HSF.out _ G1.out).mono ?_
  rintro e x9 ⟨rfl, bb⟩
  have G9 := Lib.hid bb
  clear bb HSF G1
  go_wp2
  go_ret
  exact ⟨rfl, G9.out⟩

set_option maxRecDepth 100000 in
set_option maxHeartbeats 2000000 in
theorem ltake_k11 (h : Ar w 60 g base cap A c bs) (hb : base ≤ 4611686018427387904) (n : Nat) (hn : bs.length = n) (hl : n ≤ 16384) (q k f m p : Nat) (hk : freeI bs (q : Int) = (k : Int)) (hf : wordN bs (8 + 8 * k) = f) (hm : wordN bs (q + 8) = m) (hp : wordN bs (q + 16) = p) (hp0 : p ≠ 0) (hpm : memHas bs k p 8 q = true) (hn0 : m ≠ 0) (hnm : memHas bs k m 16 q = true) (hfq : f ≠ q) :
    Calls Try.prog 10 #[.pointer (some ⟨g, 0, none⟩), .int .i64 (q : Int)] w fun e w' => e = .returned (errV true 3) ∧ Became 60 g base cap A (markB (lyN (lyN (lyN bs (p + 8) m) (m + 16) p) (8 + 8 * k) f) k) w w' := by
  obtain ⟨q184, q32, k22⟩ := freeI_in hk
  have hfl : f < 18446744073709551616 := by rw [← hf]; exact wordN_lt _ _
  have hml : m < 18446744073709551616 := by rw [← hm]; exact wordN_lt _ _
  have hpl : p < 18446744073709551616 := by rw [← hp]; exact wordN_lt _ _
  have HF := Lib.hid (lfree_yes h hb (by omega) (q : Int) (by omega) k hk)
  have HFA := Lib.hid (fun W => lfirst_any W k k22)
  have HNF := Lib.hid (fun W (hB : Below w.heap.size w W) => lnumber_any (h.below hB) hb (by omega) (8 + 8 * (k : Int)) (8 + 8 * k) (by omega) (by omega) f hf)
  have HNM := Lib.hid (fun W (hB : Below w.heap.size w W) => lnumber_any (h.below hB) hb (by omega) ((q : Int) + 8) (q + 8) (by omega) (by omega) m hm)
  have HNP := Lib.hid (fun W (hB : Below w.heap.size w W) => lnumber_any (h.below hB) hb (by omega) ((q : Int) + 16) (q + 16) (by omega) (by omega) p hp)
  have hq2 : q + 32 ≤ n := by omega
  have hq3 : 184 ≤ q := by omega
  have s1 : ((p : Int) == 0) = false := by rw [beq_eq_false_iff_ne]; omega
  have s1b : ((p : Int) != 0) = true := by rw [bne_iff_ne]; omega
  have HPM := Lib.hid (fun W (hB : Below w.heap.size w W) => lhas_any (h.below hB) hb (by omega) k p 8 q k22 hpl (by omega) _ hpm)
  have HNH := Lib.hid (fun W (hB : Below w.heap.size w W) => lhas_any (h.below hB) hb (by omega) k m 16 q k22 hml (by omega) _ hnm)
  have s3 : ((m : Int) != 0) = true := by rw [bne_iff_ne]; omega
  have s4 : ((f : Int) == (q : Int)) = false := by rw [beq_eq_false_iff_ne]; omega
  have hpin := memberB_in (memHas_mem hpm)
  have hp8 : p + 32 ≤ n := by omega
  have hnin := memberB_in (memHas_mem hnm)
  have hn16 : m + 32 ≤ n := by omega
  have HBO := Lib.hid (fun W (hB : Below w.heap.size w W) => became_of h hB)
  obtain ⟨b1, hb1⟩ : ∃ b, lyN bs (p + 8) m = b := ⟨_, rfl⟩
  have nb1 : b1.length = n := by rw [← hb1, lyN_length _ _ _ (by omega)]; exact hn
  have HS1 := fun W (hB : Became 60 g base cap A bs w W) => became_set hB hb (by omega) ((p : Int) + 8) (p + 8) (by omega) (by omega) m hml
  rw [hb1] at HS1 ⊢
  have HS1 := Lib.hid HS1
  obtain ⟨b2, hb2⟩ : ∃ b, lyN b1 (m + 16) p = b := ⟨_, rfl⟩
  have nb2 : b2.length = n := by rw [← hb2, lyN_length _ _ _ (by omega)]; exact nb1
  have HS2 := fun W (hB : Became 60 g base cap A b1 w W) => became_set hB hb (by omega) ((m : Int) + 16) (m + 16) (by omega) (by omega) p hpl
  rw [hb2] at HS2 ⊢
  have HS2 := Lib.hid HS2
  have HSF := Lib.hid (fun W (hB : Became 60 g base cap A b2 w W) => became_first hB hb n nb2 hl (by omega) k k22 f (by omega))
  clear hb1 nb1 hb2 nb2
  clear h hk hf hn hm hp hpm hnm
  go_enter Try.func10, Try.ntmps10
  go_wp2_with fail
  with_reducible refine HF.out.mono ?_
  rintro e w1 ⟨rfl, hb1⟩
  have HB := Lib.hid hb1
  clear hb1 HF
  go_wp2_with fail
  refine (HFA.out _).mono ?_
  rintro e w9 ⟨rfl, rfl⟩
  go_wp2_with fail
  refine (HNF.out _ HB.out).mono ?_
  rintro e w9 ⟨rfl, rfl⟩
  go_wp2_with fail
  refine (HNM.out _ HB.out).mono ?_
  rintro e w9 ⟨rfl, rfl⟩
  go_wp2_with fail
  refine (HNP.out _ HB.out).mono ?_
  rintro e w9 ⟨rfl, rfl⟩
  clear HFA HNF HNM HNP
  go_wp2_with fail
  refine (HPM.out _ HB.out).mono ?_
  rintro e w2 ⟨rfl, hb2⟩
  have HB2 := Lib.hid (HB.out.trans (hb2.mono HB.out.size))
  clear hb2 HPM HB
  go_wp2_with fail
  refine (HNH.out _ HB2.out).mono ?_
  rintro e w3 ⟨rfl, hb3⟩
  have HB3 := Lib.hid (HB2.out.trans (hb3.mono HB2.out.size))
  clear hb3 HNH HB2
  have G0 := Lib.hid (HBO.out _ HB3.out)
  clear HBO HB3
  go_wp2_with fail
  refine (HS1.out _ G0.out).mono ?_
  rintro e x1 ⟨rfl, bb⟩
  have G1 := Lib.hid bb
  clear bb HS1 G0
  go_wp2_with fail
  refine (HS2.out _ G1.out).mono ?_
  rintro e x2 ⟨rfl, bb⟩
  have G2 := Lib.hid bb
  clear bb HS2 G1
  go_wp2_with fail
  refine (HSF.out _ G2.out).mono ?_
  rintro e x9 ⟨rfl, bb⟩
  have G9 := Lib.hid bb
  clear bb HSF G2
  go_wp2
  go_ret
  exact ⟨rfl, G9.out⟩

end
theorem memHas_false {bs : List UInt8} {k v j u : Nat} (h : memHas bs k v j u = false) : memberB bs v (k : Int) = false ∨ (wordN bs (v + j) : Int) ≠ (u : Int) := by
  unfold memHas at h
  rw [Bool.and_eq_false_iff, beq_eq_false_iff_ne] at h
  rcases h with h | h
  · exact .inl h
  · exact .inr (by omega)
theorem memHas_true {bs : List UInt8} {k v j u : Nat} (h : memHas bs k v j u = true) : ¬ (memberB bs v (k : Int) = false ∨ (wordN bs (v + j) : Int) ≠ (u : Int)) := by
  unfold memHas at h
  rw [Bool.and_eq_true, beq_iff_eq] at h
  rintro (h1 | h1)
  · rw [h.1] at h1; cases h1
  · exact h1 (by omega)
theorem lyN_swap (bs : List UInt8) (o v e k : Nat) (h1 : o + 8 ≤ e) (h2 : e + 8 ≤ bs.length) : lyN (lyN bs e k) o v = lyN (lyN bs o v) e k := by
  have := layN_swap bs o v e k h1 h2
  simpa only [layN_eq] using this
theorem takeC : TakeC := by
  intro w g base cap c A bs o y h hb hl ho hy
  subst hy
  rcases freeI_cases bs o with hk | ⟨k, hk⟩
  · have e : takeB bs o = none := by unfold takeB; rw [if_pos hk]
    rw [e]
    exact ltake_no h hb _ rfl hl o ho hk
  · obtain ⟨q184, q32, k22⟩ := freeI_in hk
    obtain ⟨q, rfl⟩ : ∃ q : Nat, o = (q : Int) := ⟨o.toNat, by omega⟩
    obtain ⟨f, hf⟩ : ∃ f, wordN bs (8 + 8 * k) = f := ⟨_, rfl⟩
    obtain ⟨m, hm⟩ : ∃ m, wordN bs (q + 8) = m := ⟨_, rfl⟩
    obtain ⟨p, hp⟩ : ∃ p, wordN bs (q + 16) = p := ⟨_, rfl⟩
    have e : takeB bs (q : Int) = if p = 0 ∧ (f : Int) ≠ (q : Int) then none
        else if p ≠ 0 ∧ (memberB bs p (k : Int) = false ∨ (wordN bs (p + 8) : Int) ≠ (q : Int)) then none
        else if m ≠ 0 ∧ (memberB bs m (k : Int) = false ∨ (wordN bs (m + 16) : Int) ≠ (q : Int)) then none
        else some (markB (if p ≠ 0 ∧ (f : Int) = (q : Int) then lyN (if m ≠ 0 then lyN (if p = 0 then lyN bs (8 + 8 * k) m else lyN bs (p + 8) m) (m + 16) p else (if p = 0 then lyN bs (8 + 8 * k) m else lyN bs (p + 8) m)) (8 + 8 * k) m else (if m ≠ 0 then lyN (if p = 0 then lyN bs (8 + 8 * k) m else lyN bs (p + 8) m) (m + 16) p else (if p = 0 then lyN bs (8 + 8 * k) m else lyN bs (p + 8) m))) k) := by
      unfold takeB
      rw [hk, if_neg (by omega)]
      simp only [Int.toNat_natCast, hf, hm, hp]
    rw [e]
    by_cases hp0 : p = 0
    · by_cases hfq : f = q
      · rw [if_neg (by omega), if_neg (by omega)]
        by_cases hm0 : m = 0
        · rw [if_neg (by omega), if_neg (by omega), if_neg (by omega), if_pos hp0]
          exact ltake_o00 h hb _ rfl hl q k f m p hk hf hm hp hp0 hfq hm0
        · cases hmh : memHas bs k m 16 q with
          | false =>
            rw [if_pos ⟨hm0, memHas_false hmh⟩]
            exact ltake_next0 h hb _ rfl hl q k f m p hk hf hm hp hp0 hfq hm0 hmh
          | true =>
            have hin := memberB_in (memHas_mem hmh)
            rw [if_neg (fun h => memHas_true hmh h.2), if_neg (by omega), if_pos hm0, if_pos hp0, ← lyN_swap bs (8 + 8 * k) m (m + 16) p (by omega) (by omega)]
            exact ltake_o01 h hb _ rfl hl q k f m p hk hf hm hp hp0 hfq hm0 hmh
      · rw [if_pos ⟨hp0, by omega⟩]
        exact ltake_first h hb _ rfl hl q k f m p hk hf hm hp hp0 hfq
    · rw [if_neg (fun h => hp0 h.1)]
      cases hph : memHas bs k p 8 q with
      | false =>
        rw [if_pos ⟨hp0, memHas_false hph⟩]
        exact ltake_prev h hb _ rfl hl q k f m p hk hf hm hp hp0 hph
      | true =>
        have hpin := memberB_in (memHas_mem hph)
        rw [if_neg (fun h => memHas_true hph h.2)]
        by_cases hm0 : m = 0
        · rw [if_neg (fun h => h.1 hm0)]
          by_cases hfq : f = q
          · rw [if_pos ⟨hp0, by omega⟩, if_neg (fun h => h hm0), if_neg hp0]
            exact ltake_o10 h hb _ rfl hl q k f m p hk hf hm hp hp0 hph hm0 hfq
          · rw [if_neg (fun h => hfq (by omega)), if_neg (fun h => h hm0), if_neg hp0]
            have e2 : lyN (lyN bs (p + 8) m) (8 + 8 * k) f = lyN bs (p + 8) m := by
              have h1 : wordN (lyN bs (p + 8) m) (8 + 8 * k) = f := by rw [wordN_other _ _ _ _ (by omega) (by omega)]; exact hf
              rw [← h1]
              exact lyN_self _ _ (by rw [lyN_length _ _ _ (by omega)]; omega)
            have := ltake_k10 h hb _ rfl hl q k f m p hk hf hm hp hp0 hph hm0 hfq
            rw [e2] at this
            exact this
        · cases hmh : memHas bs k m 16 q with
          | false =>
            rw [if_pos ⟨hm0, memHas_false hmh⟩]
            exact ltake_next1 h hb _ rfl hl q k f m p hk hf hm hp hp0 hph hm0 hmh
          | true =>
            have hin := memberB_in (memHas_mem hmh)
            rw [if_neg (fun h => memHas_true hmh h.2)]
            by_cases hfq : f = q
            · rw [if_pos ⟨hp0, by omega⟩, if_pos hm0, if_neg hp0]
              exact ltake_o11 h hb _ rfl hl q k f m p hk hf hm hp hp0 hph hm0 hmh hfq
            · rw [if_neg (fun h => hfq (by omega)), if_pos hm0, if_neg hp0]
              have hl1 : (lyN bs (p + 8) m).length = bs.length := lyN_length _ _ _ (by omega)
              have e2 : lyN (lyN (lyN bs (p + 8) m) (m + 16) p) (8 + 8 * k) f = lyN (lyN bs (p + 8) m) (m + 16) p := by
                have h1 : wordN (lyN (lyN bs (p + 8) m) (m + 16) p) (8 + 8 * k) = f := by rw [wordN_other _ _ _ _ (by omega) (by omega), wordN_other _ _ _ _ (by omega) (by omega)]; exact hf
                rw [← h1]
                exact lyN_self _ _ (by rw [lyN_length _ _ _ (by omega)]; omega)
              have := ltake_k11 h hb _ rfl hl q k f m p hk hf hm hp hp0 hph hm0 hmh hfq
              rw [e2] at this
              exact this
end Go.Proofs.Ytdhlfhpgfdpjbaa

/- The contract of the program's All. -/
namespace Go.Proofs.Ytdhlfhpgfdpjbaa
open Go.RowKit

set_option maxRecDepth 100000 in
set_option maxHeartbeats 4000000 in
theorem allC : AllC := by
  intro w g base cap c A bs k x h hb hl hk hx
  have hk1 : ¬ (k : Int) < 0 := by omega
  have hk2 : ¬ 22 ≤ (k : Int) := by omega
  by_cases h0 : bs.length < 184
  · obtain rfl : none = x := by rw [← hx]; unfold allB; rw [if_pos h0]
    have HL := Lib.hid (len_any h)
    clear hx h
    go_enter Try.func11, Try.ntmps11
    go_wp2_with fail
    with_reducible refine HL.out.mono ?_
    rintro e w1 ⟨rfl, rfl⟩
    go_wp2
    go_ret2
    exact ⟨none, 0, rfl, World.ownsRow_nil _ _ _ _, Below.refl _ _⟩
  · obtain ⟨f, hf⟩ : ∃ f, wordN bs (8 + 8 * k) = f := ⟨_, rfl⟩
    obtain ⟨b, hbt⟩ : ∃ b, bitN (wordN bs 0) k = b := ⟨_, rfl⟩
    have hfl : f < 18446744073709551616 := by rw [← hf]; exact wordN_lt _ _
    have hx' : (if b ≠ decide (f ≠ 0) then none else allF bs k 1024 0 f) = x := by rw [← hx]; unfold allB; rw [if_neg h0, hf, hbt]
    have HL := Lib.hid (len_any h)
    have HFA := Lib.hid (lfirst_any w k hk)
    have HNF := Lib.hid (lnumber_any h hb hl (8 + 8 * (k : Int)) (8 + 8 * k) (by omega) (by omega) f hf)
    have HBT := Lib.hid (lhasbit_any h hb hl (by omega) k hk b hbt)
    have HAR := Lib.hid h
    have HBASE := Lib.hid hb
    obtain ⟨d, hd⟩ : ∃ d, decide (f ≠ 0) = d := ⟨_, rfl⟩
    have hd2 : ((f : Int) != 0) = d := by
      rw [← hd, Bool.eq_iff_iff, bne_iff_ne, decide_eq_true_eq]; omega
    rw [hd] at hx'
    clear hf hbt hx h hb
    by_cases hbd : b = d
    · subst hbd
      rw [if_neg (by simp)] at hx'
      obtain ⟨i0, hi, hz0, hz1, hz2⟩ := info_parts int_inf
      have HX := Lib.hid hx'
      obtain ⟨B0, hB0⟩ : ∃ B0, w.heap.size = B0 := ⟨_, rfl⟩
      have HB0 := Lib.hid hB0
      have hbb : (b != b) = false := by simp
      clear hx' hB0 hd
      go_enter Try.func11, Try.ntmps11
      go_wp2_with fail
      with_reducible refine HL.out.mono ?_
      rintro e w1 ⟨rfl, rfl⟩
      go_wp2_with fail
      with_reducible refine HFA.out.mono ?_
      rintro e w1 ⟨rfl, rfl⟩
      go_wp2_with fail
      with_reducible refine HNF.out.mono ?_
      rintro e w1 ⟨rfl, rfl⟩
      go_wp2_with fail
      with_reducible refine HBT.out.mono ?_
      rintro e w1 ⟨rfl, rfl⟩
      clear HL HFA HNF HBT
      go_wp2
      clear hd2
      go_loopw [6, 7, 8] (fun q o t wr => ∃ (p last n : Nat) (l : List Nat), q = .int .u64 (p : Int) ∧ t = .int .u64 (last : Int) ∧ p < 18446744073709551616 ∧ last < 18446744073709551616 ∧ n + l.length = 1024 ∧ x = (allF bs k n last p).map (l ++ ·) ∧ wr.ownsRow B0 3 1 o l.length (l.map iV) ∧ Below B0 w wr) (fun _ o _ _ => match o with | .slice _ n _ => 1024 - n | _ => 0)
      case atStart => exact ⟨f, 0, 1024, [], rfl, rfl, hfl, by omega, rfl, by rw [HX.out]; simp, World.ownsRow_nil _ _ _ _, Below.refl _ _⟩
      case round =>
        obtain ⟨p, last, n, l, rfl, rfl, hp, hlast, hn, hxl, hown, hbw⟩ := hrel
        obtain ⟨A7, c7, rfl⟩ := own_sl hown
        have hBw : B0 ≤ wr.heap.size := by have := hbw.size; have := HB0.out; omega
        by_cases hp0 : p = 0
        · subst hp0
          obtain rfl : x = some l := by rw [hxl]; cases n <;> simp [allF]
          have HB := Lib.hid hbw
          have HO := Lib.hid hown
          clear hxl hown hbw HX HAR HBASE
          go_wp2
          go_ret2
          exact ⟨A7, c7, rfl, by rw [HB0.out]; exact HO.out, by rw [HB0.out]; exact HB.out⟩
        · have hq0 : ((p : Int) != 0) = true := by rw [bne_iff_ne]; omega
          have har := HAR.out.below (by rw [HB0.out]; exact hbw)
          by_cases hn0 : n = 0
          · subst hn0
            obtain rfl : x = none := by rw [hxl]; simp [allF, hp0]
            have e1 : ((l.length : Int) == 1024) = true := by rw [beq_iff_eq]; omega
            have HB := Lib.hid hbw
            clear hxl hown hbw HX HAR HBASE har
            go_wp2
            go_ret2
            exact ⟨none, 0, rfl, World.ownsRow_nil _ _ _ _, by rw [HB0.out]; exact HB.out⟩
          · obtain ⟨n, rfl⟩ : ∃ n', n = n' + 1 := ⟨n - 1, by omega⟩
            have e1 : ((l.length : Int) == 1024) = false := by rw [beq_eq_false_iff_ne]; omega
            have hstep : x = (if memberB bs p (k : Int) = true ∧ wordN bs (p + 16) = last then (allF bs k n p (wordN bs (p + 8))).map (p :: ·) else none).map (l ++ ·) := by
              rw [hxl]
              conv => lhs; unfold allF
              rw [if_neg hp0]
            cases hm : memHas bs k p 16 last with
            | false =>
              rw [if_neg (by
                rintro ⟨h1, h2⟩
                unfold memHas at hm
                rw [h1, h2] at hm
                simp at hm)] at hstep
              obtain rfl : x = none := hstep
              have HM := Lib.hid (lhas_any har HBASE.out hl k p 16 last hk hp (by omega) false hm)
              have HB := Lib.hid hbw
              clear hxl hown hbw HX HAR HBASE har hm
              go_wp2_with fail
              refine HM.out.mono ?_
              rintro e w2 ⟨rfl, hb2⟩
              have HB2 := Lib.hid (HB.out.trans (hb2.mono hBw))
              clear hb2
              go_wp2
              go_ret2
              exact ⟨none, 0, rfl, World.ownsRow_nil _ _ _ _, by rw [HB0.out]; exact HB2.out⟩
            | true =>
              obtain ⟨hm1, hm2⟩ : memberB bs p (k : Int) = true ∧ wordN bs (p + 16) = last := by
                unfold memHas at hm
                rw [Bool.and_eq_true, beq_iff_eq] at hm
                exact hm
              have hpf := memberB_in hm1
              obtain ⟨nx, hnx⟩ : ∃ nx, wordN bs (p + 8) = nx := ⟨_, rfl⟩
              have hnl : nx < 18446744073709551616 := by rw [← hnx]; exact wordN_lt _ _
              rw [if_pos ⟨hm1, hm2⟩, hnx] at hstep
              have hstep' : x = (allF bs k n p nx).map ((l ++ [p]) ++ ·) := by
                rw [hstep, Option.map_map]
                congr 1
                funext r
                simp
              have hp16 : p ≤ 16384 := by omega
              have hww : w.heap.size ≤ wr.heap.size := by have := HB0.out; omega
              have HN := Lib.hid (fun W (hB : Below w.heap.size w W) => lnumber_any (HAR.out.below hB) HBASE.out hl ((p : Int) + 8) (p + 8) (by omega) (by omega) nx hnx)
              have HM := Lib.hid (lhas_any har HBASE.out hl k p 16 last hk hp (by omega) true hm)
              have HB := Lib.hid hbw
              have HS := Lib.hid hstep'
              have HOWN := Lib.hid hown
              have HALT : Hid (∀ k, (Value.slice A7 l.length c7).ownBlock = some k → B0 ≤ k ∧ k < wr.heap.size) := hown.lt
              clear hxl hstep hstep' hown hbw HX hm hm1 hm2 hnx har HAR HBASE
              go_wp2_with fail
              refine HM.out.mono ?_
              rintro e w2 ⟨rfl, hb2⟩
              have H2 := Lib.hid hb2
              have own4 := own_below' (own_below' HOWN.out hb2) ((Below.refl w2.heap.size w2).alloc (Nat.le_refl _) (.cells #[.int .i64 (p : Int)] 3))
              have n4 : (w2.alloc (.cells #[.int .i64 (p : Int)] 3)).heap[w2.heap.size]? = some (.cells #[.int .i64 (p : Int)] 3 (0, 0)) := heap_alloc_new w2 _
              have HNEW : Hid (∀ j u, [Value.int .i64 (p : Int)][j]? = some u → (w2.alloc (.cells #[.int .i64 (p : Int)] 3)).cell? ((⟨w2.heap.size, 0, none⟩ : Addr).add j) = some u) := fun j u hu => by
                have e : (⟨w2.heap.size, 0, none⟩ : Addr).add j = ⟨w2.heap.size, j, none⟩ := by unfold Addr.add; split <;> simp_all
                rw [e, cell_of_row _ _ j _ _ (0, 0) n4]
                simpa using hu
              have HONE : Hid (∀ u ∈ [Value.int .i64 (p : Int)], u.oneCell' = true) := fun u hu => by
                simp at hu
                subst hu; rfl
              have hB4 : B0 ≤ (w2.alloc (.cells #[.int .i64 (p : Int)] 3)).heap.size := by simp; have := hb2.size; omega
              have HB4 : Hid (Below w2.heap.size w2 (w2.alloc (.cells #[.int .i64 (p : Int)] 3))) := (Below.refl w2.heap.size w2).alloc (Nat.le_refl _) _
              have OWN4 := Lib.hid own4
              have hsz2 := hb2.size
              clear own4 n4 hb2 HOWN HM
              go_wp2_with (first
                | (at_builtin; go_must (refine wpList_append_own _ rfl _ _ 22 rfl B0 3 i0 _ 1 8 Try.underlying22 hi hz0 hz1 hz2 rfl (by decide) _ l.length (l.map iV) rfl OWN4.out ⟨w2.heap.size, 0, none⟩ 1 1 [.int .i64 (p : Int)] rfl rfl HNEW.out HONE.out (by unfold maxLen; omega) (by omega) hB4 ?_); intro x5 w5 own5 gr5 at5;
                   have gr5' : (w2.alloc (.cells #[.int .i64 (p : Int)] 3)).grownBy w5 (Value.slice A7 l.length c7).ownBlock := gr5; have HB5 : Hid (Below B0 wr w5) := ((H2.out.mono hBw).trans (HB4.out.mono (by omega))).grown gr5' hB4 (fun k hk => (HALT.out k hk).1); have HW5 : Hid (Below w.heap.size w w5) := (show Below w.heap.size w w5 by rw [HB0.out]; exact HB.out.trans HB5.out); have OWN5 : Hid (w5.ownsRow B0 3 1 x5 (l.length + 1) ((l ++ [p]).map iV)) := (show World.ownsRow _ _ _ _ _ _ _ by rw [List.map_append]; exact own5); clear own5 gr5 gr5' at5)
                | fail)
              refine (HN.out w5 HW5.out).mono ?_
              rintro e w6 ⟨rfl, rfl⟩
              have HBE := Lib.hid (HB.out.trans HB5.out)
              clear HN H2 HB4 OWN4 HNEW HONE
              go_wp2
              go_roundw
              case rel => exact ⟨nx, p, n, l ++ [p], rfl, rfl, hnl, hp, by rw [List.length_append, List.length_singleton]; omega, HS.out, by rw [List.length_append, List.length_singleton]; exact OWN5.out, HBE.out⟩
              case measure =>
                obtain ⟨A8, c8, rfl⟩ := own_sl OWN5.out
                simp; omega
    · rw [if_pos hbd] at hx'
      obtain rfl : none = x := hx'
      have hcs : (b = true ∧ d = false) ∨ (b = false ∧ d = true) := by cases b <;> cases d <;> simp_all
      clear hd hbd HAR HBASE
      rcases hcs with ⟨rfl, rfl⟩ | ⟨rfl, rfl⟩
      all_goals
        go_enter Try.func11, Try.ntmps11
        go_wp2_with fail
        with_reducible refine HL.out.mono ?_
        rintro e w1 ⟨rfl, rfl⟩
        go_wp2_with fail
        with_reducible refine HFA.out.mono ?_
        rintro e w1 ⟨rfl, rfl⟩
        go_wp2_with fail
        with_reducible refine HNF.out.mono ?_
        rintro e w1 ⟨rfl, rfl⟩
        go_wp2_with fail
        with_reducible refine HBT.out.mono ?_
        rintro e w1 ⟨rfl, rfl⟩
        clear HL HFA HNF HBT
        go_wp2
        go_ret2
        exact ⟨none, 0, rfl, World.ownsRow_nil _ _ _ _, Below.refl _ _⟩
end Go.Proofs.Ytdhlfhpgfdpjbaa
