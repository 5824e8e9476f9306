/- Texts of mine, joined: Lst5, Lst6, Law09a, Ls, FirstM, Law09c, Spec10, Fit1, Fit2, Spec11, Law11a, Hm1, Hm2, Hm3, Hm4. -/
import Derived.Great.BuildSlice
import Derived.Test.YtbemaoncakcnjaaGreatM6

/- The contract of the program's Take (genlst.py). -/
namespace Go.Proofs.YtbemaoncakcnjaaGreat
open Go.RowKit

theorem memHas_mem {bs : List UInt8} {k v j u : Nat} (h : memHas bs k v j u = true) : memberB bs v (k : Int) = true := by
  unfold memHas at h
  rw [Bool.and_eq_true] at h
  exact h.1

section
variable {w : World} {g base cap c : Nat} {A : Option Addr} {bs : List UInt8}
set_option maxRecDepth 100000 in
set_option maxHeartbeats 2000000 in
theorem ltake_no (h : Ar w 92 g base cap A c bs) (hb : base ≤ 4611686018427387904) (n : Nat) (hn : bs.length = n) (hl : n ≤ 16384) (o : Int) (ho : -9223372036854775808 ≤ o ∧ o ≤ 9223372036854775807) (hk : freeI bs o < 0) :
    Calls Tryz.prog 116 #[.pointer (some ⟨g, 0, none⟩), .int .i64 o] w fun e w' => e = .returned (errV false 3) ∧ Below w.heap.size w w' := by
  have HF := Lib.hid (lfree_no h hb (by omega) o ho hk)
  clear h hk hn
  go_enter Tryz.func116, Tryz.ntmps116
  go_wp2_with fail
  with_reducible refine HF.out.mono ?_
  rintro e w1 ⟨rfl, hb1⟩
  have HB := Lib.hid hb1
  clear hb1
  go_wp2
  go_ret
  exact ⟨rfl, HB.out⟩

set_option maxRecDepth 100000 in
set_option maxHeartbeats 2000000 in
theorem ltake_first (h : Ar w 92 g base cap A c bs) (hb : base ≤ 4611686018427387904) (n : Nat) (hn : bs.length = n) (hl : n ≤ 16384) (q k f m p : Nat) (hk : freeI bs (q : Int) = (k : Int)) (hf : wordN bs (8 + 8 * k) = f) (hm : wordN bs (q + 8) = m) (hp : wordN bs (q + 16) = p) (hp0 : p = 0) (hfq : f ≠ q) :
    Calls Tryz.prog 116 #[.pointer (some ⟨g, 0, none⟩), .int .i64 (q : Int)] w fun e w' => e = .returned (errV false 3) ∧ Below w.heap.size w w' := by
  obtain ⟨q184, q32, k22⟩ := freeI_in hk
  have hfl : f < 18446744073709551616 := by rw [← hf]; exact wordN_lt _ _
  have hml : m < 18446744073709551616 := by rw [← hm]; exact wordN_lt _ _
  have hpl : p < 18446744073709551616 := by rw [← hp]; exact wordN_lt _ _
  have HF := Lib.hid (lfree_yes h hb (by omega) (q : Int) (by omega) k hk)
  have HFA := Lib.hid (fun W => lfirst_any W k k22)
  have HNF := Lib.hid (fun W (hB : Below w.heap.size w W) => lnumber_any (h.below hB) hb (by omega) (8 + 8 * (k : Int)) (8 + 8 * k) (by omega) (by omega) f hf)
  have HNM := Lib.hid (fun W (hB : Below w.heap.size w W) => lnumber_any (h.below hB) hb (by omega) ((q : Int) + 8) (q + 8) (by omega) (by omega) m hm)
  have HNP := Lib.hid (fun W (hB : Below w.heap.size w W) => lnumber_any (h.below hB) hb (by omega) ((q : Int) + 16) (q + 16) (by omega) (by omega) p hp)
  have hq2 : q + 32 ≤ n := by omega
  have hq3 : 184 ≤ q := by omega
  have s1 : ((p : Int) == 0) = true := by subst hp0; rfl
  have s1b : ((p : Int) != 0) = false := by subst hp0; rfl
  have s2 : ((f : Int) != (q : Int)) = true := by rw [bne_iff_ne]; omega
  clear h hk hf hn hm hp hp0
  go_enter Tryz.func116, Tryz.ntmps116
  go_wp2_with fail
  with_reducible refine HF.out.mono ?_
  rintro e w1 ⟨rfl, hb1⟩
  have HB := Lib.hid hb1
  clear hb1 HF
  go_wp2_with fail
  refine (HFA.out _).mono ?_
  rintro e w9 ⟨rfl, rfl⟩
  go_wp2_with fail
  refine (HNF.out _ HB.out).mono ?_
  rintro e w9 ⟨rfl, rfl⟩
  go_wp2_with fail
  refine (HNM.out _ HB.out).mono ?_
  rintro e w9 ⟨rfl, rfl⟩
  go_wp2_with fail
  refine (HNP.out _ HB.out).mono ?_
  rintro e w9 ⟨rfl, rfl⟩
  clear HFA HNF HNM HNP
  go_wp2
  go_ret
  exact ⟨rfl, HB.out⟩

set_option maxRecDepth 100000 in
set_option maxHeartbeats 2000000 in
theorem ltake_prev (h : Ar w 92 g base cap A c bs) (hb : base ≤ 4611686018427387904) (n : Nat) (hn : bs.length = n) (hl : n ≤ 16384) (q k f m p : Nat) (hk : freeI bs (q : Int) = (k : Int)) (hf : wordN bs (8 + 8 * k) = f) (hm : wordN bs (q + 8) = m) (hp : wordN bs (q + 16) = p) (hp0 : p ≠ 0) (hpm : memHas bs k p 8 q = false) :
    Calls Tryz.prog 116 #[.pointer (some ⟨g, 0, none⟩), .int .i64 (q : Int)] w fun e w' => e = .returned (errV false 3) ∧ Below w.heap.size w w' := by
  obtain ⟨q184, q32, k22⟩ := freeI_in hk
  have hfl : f < 18446744073709551616 := by rw [← hf]; exact wordN_lt _ _
  have hml : m < 18446744073709551616 := by rw [← hm]; exact wordN_lt _ _
  have hpl : p < 18446744073709551616 := by rw [← hp]; exact wordN_lt _ _
  have HF := Lib.hid (lfree_yes h hb (by omega) (q : Int) (by omega) k hk)
  have HFA := Lib.hid (fun W => lfirst_any W k k22)
  have HNF := Lib.hid (fun W (hB : Below w.heap.size w W) => lnumber_any (h.below hB) hb (by omega) (8 + 8 * (k : Int)) (8 + 8 * k) (by omega) (by omega) f hf)
  have HNM := Lib.hid (fun W (hB : Below w.heap.size w W) => lnumber_any (h.below hB) hb (by omega) ((q : Int) + 8) (q + 8) (by omega) (by omega) m hm)
  have HNP := Lib.hid (fun W (hB : Below w.heap.size w W) => lnumber_any (h.below hB) hb (by omega) ((q : Int) + 16) (q + 16) (by omega) (by omega) p hp)
  have hq2 : q + 32 ≤ n := by omega
  have hq3 : 184 ≤ q := by omega
  have s1 : ((p : Int) == 0) = false := by rw [beq_eq_false_iff_ne]; omega
  have s1b : ((p : Int) != 0) = true := by rw [bne_iff_ne]; omega
  have HPM := Lib.hid (fun W (hB : Below w.heap.size w W) => lhas_any (h.below hB) hb (by omega) k p 8 q k22 hpl (by omega) _ hpm)
  clear h hk hf hn hm hp hpm
  go_enter Tryz.func116, Tryz.ntmps116
  go_wp2_with fail
  with_reducible refine HF.out.mono ?_
  rintro e w1 ⟨rfl, hb1⟩
  have HB := Lib.hid hb1
  clear hb1 HF
  go_wp2_with fail
  refine (HFA.out _).mono ?_
  rintro e w9 ⟨rfl, rfl⟩
  go_wp2_with fail
  refine (HNF.out _ HB.out).mono ?_
  rintro e w9 ⟨rfl, rfl⟩
  go_wp2_with fail
  refine (HNM.out _ HB.out).mono ?_
  rintro e w9 ⟨rfl, rfl⟩
  go_wp2_with fail
  refine (HNP.out _ HB.out).mono ?_
  rintro e w9 ⟨rfl, rfl⟩
  clear HFA HNF HNM HNP
  go_wp2_with fail
  refine (HPM.out _ HB.out).mono ?_
  rintro e w2 ⟨rfl, hb2⟩
  have HB2 := Lib.hid (HB.out.trans (hb2.mono HB.out.size))
  clear hb2 HPM HB
  go_wp2
  go_ret
  exact ⟨rfl, HB2.out⟩

set_option maxRecDepth 100000 in
set_option maxHeartbeats 2000000 in
theorem ltake_next0 (h : Ar w 92 g base cap A c bs) (hb : base ≤ 4611686018427387904) (n : Nat) (hn : bs.length = n) (hl : n ≤ 16384) (q k f m p : Nat) (hk : freeI bs (q : Int) = (k : Int)) (hf : wordN bs (8 + 8 * k) = f) (hm : wordN bs (q + 8) = m) (hp : wordN bs (q + 16) = p) (hp0 : p = 0) (hfq : f = q) (hn0 : m ≠ 0) (hnm : memHas bs k m 16 q = false) :
    Calls Tryz.prog 116 #[.pointer (some ⟨g, 0, none⟩), .int .i64 (q : Int)] w fun e w' => e = .returned (errV false 3) ∧ Below w.heap.size w w' := by
  obtain ⟨q184, q32, k22⟩ := freeI_in hk
  have hfl : f < 18446744073709551616 := by rw [← hf]; exact wordN_lt _ _
  have hml : m < 18446744073709551616 := by rw [← hm]; exact wordN_lt _ _
  have hpl : p < 18446744073709551616 := by rw [← hp]; exact wordN_lt _ _
  have HF := Lib.hid (lfree_yes h hb (by omega) (q : Int) (by omega) k hk)
  have HFA := Lib.hid (fun W => lfirst_any W k k22)
  have HNF := Lib.hid (fun W (hB : Below w.heap.size w W) => lnumber_any (h.below hB) hb (by omega) (8 + 8 * (k : Int)) (8 + 8 * k) (by omega) (by omega) f hf)
  have HNM := Lib.hid (fun W (hB : Below w.heap.size w W) => lnumber_any (h.below hB) hb (by omega) ((q : Int) + 8) (q + 8) (by omega) (by omega) m hm)
  have HNP := Lib.hid (fun W (hB : Below w.heap.size w W) => lnumber_any (h.below hB) hb (by omega) ((q : Int) + 16) (q + 16) (by omega) (by omega) p hp)
  have hq2 : q + 32 ≤ n := by omega
  have hq3 : 184 ≤ q := by omega
  have s1 : ((p : Int) == 0) = true := by subst hp0; rfl
  have s1b : ((p : Int) != 0) = false := by subst hp0; rfl
  have s2 : ((f : Int) != (q : Int)) = false := by rw [bne_eq_false_iff_eq]; omega
  have HNH := Lib.hid (fun W (hB : Below w.heap.size w W) => lhas_any (h.below hB) hb (by omega) k m 16 q k22 hml (by omega) _ hnm)
  have s3 : ((m : Int) != 0) = true := by rw [bne_iff_ne]; omega
  clear h hk hf hn hm hp hnm hp0 hfq
  go_enter Tryz.func116, Tryz.ntmps116
  go_wp2_with fail
  with_reducible refine HF.out.mono ?_
  rintro e w1 ⟨rfl, hb1⟩
  have HB := Lib.hid hb1
  clear hb1 HF
  go_wp2_with fail
  refine (HFA.out _).mono ?_
  rintro e w9 ⟨rfl, rfl⟩
  go_wp2_with fail
  refine (HNF.out _ HB.out).mono ?_
  rintro e w9 ⟨rfl, rfl⟩
  go_wp2_with fail
  refine (HNM.out _ HB.out).mono ?_
  rintro e w9 ⟨rfl, rfl⟩
  go_wp2_with fail
  refine (HNP.out _ HB.out).mono ?_
  rintro e w9 ⟨rfl, rfl⟩
  clear HFA HNF HNM HNP
  go_wp2_with fail
  refine (HNH.out _ HB.out).mono ?_
  rintro e w3 ⟨rfl, hb3⟩
  have HB3 := Lib.hid (HB.out.trans (hb3.mono HB.out.size))
  clear hb3 HNH HB
  go_wp2
  go_ret
  exact ⟨rfl, HB3.out⟩

set_option maxRecDepth 100000 in
set_option maxHeartbeats 2000000 in
theorem ltake_next1 (h : Ar w 92 g base cap A c bs) (hb : base ≤ 4611686018427387904) (n : Nat) (hn : bs.length = n) (hl : n ≤ 16384) (q k f m p : Nat) (hk : freeI bs (q : Int) = (k : Int)) (hf : wordN bs (8 + 8 * k) = f) (hm : wordN bs (q + 8) = m) (hp : wordN bs (q + 16) = p) (hp0 : p ≠ 0) (hpm : memHas bs k p 8 q = true) (hn0 : m ≠ 0) (hnm : memHas bs k m 16 q = false) :
    Calls Tryz.prog 116 #[.pointer (some ⟨g, 0, none⟩), .int .i64 (q : Int)] w fun e w' => e = .returned (errV false 3) ∧ Below w.heap.size w w' := by
  obtain ⟨q184, q32, k22⟩ := freeI_in hk
  have hfl : f < 18446744073709551616 := by rw [← hf]; exact wordN_lt _ _
  have hml : m < 18446744073709551616 := by rw [← hm]; exact wordN_lt _ _
  have hpl : p < 18446744073709551616 := by rw [← hp]; exact wordN_lt _ _
  have HF := Lib.hid (lfree_yes h hb (by omega) (q : Int) (by omega) k hk)
  have HFA := Lib.hid (fun W => lfirst_any W k k22)
  have HNF := Lib.hid (fun W (hB : Below w.heap.size w W) => lnumber_any (h.below hB) hb (by omega) (8 + 8 * (k : Int)) (8 + 8 * k) (by omega) (by omega) f hf)
  have HNM := Lib.hid (fun W (hB : Below w.heap.size w W) => lnumber_any (h.below hB) hb (by omega) ((q : Int) + 8) (q + 8) (by omega) (by omega) m hm)
  have HNP := Lib.hid (fun W (hB : Below w.heap.size w W) => lnumber_any (h.below hB) hb (by omega) ((q : Int) + 16) (q + 16) (by omega) (by omega) p hp)
  have hq2 : q + 32 ≤ n := by omega
  have hq3 : 184 ≤ q := by omega
  have s1 : ((p : Int) == 0) = false := by rw [beq_eq_false_iff_ne]; omega
  have s1b : ((p : Int) != 0) = true := by rw [bne_iff_ne]; omega
  have HPM := Lib.hid (fun W (hB : Below w.heap.size w W) => lhas_any (h.below hB) hb (by omega) k p 8 q k22 hpl (by omega) _ hpm)
  have HNH := Lib.hid (fun W (hB : Below w.heap.size w W) => lhas_any (h.below hB) hb (by omega) k m 16 q k22 hml (by omega) _ hnm)
  have s3 : ((m : Int) != 0) = true := by rw [bne_iff_ne]; omega
  clear h hk hf hn hm hp hpm hnm
  go_enter Tryz.func116, Tryz.ntmps116
  go_wp2_with fail
  with_reducible refine HF.out.mono ?_
  rintro e w1 ⟨rfl, hb1⟩
  have HB := Lib.hid hb1
  clear hb1 HF
  go_wp2_with fail
  refine (HFA.out _).mono ?_
  rintro e w9 ⟨rfl, rfl⟩
  go_wp2_with fail
  refine (HNF.out _ HB.out).mono ?_
  rintro e w9 ⟨rfl, rfl⟩
  go_wp2_with fail
  refine (HNM.out _ HB.out).mono ?_
  rintro e w9 ⟨rfl, rfl⟩
  go_wp2_with fail
  refine (HNP.out _ HB.out).mono ?_
  rintro e w9 ⟨rfl, rfl⟩
  clear HFA HNF HNM HNP
  go_wp2_with fail
  refine (HPM.out _ HB.out).mono ?_
  rintro e w2 ⟨rfl, hb2⟩
  have HB2 := Lib.hid (HB.out.trans (hb2.mono HB.out.size))
  clear hb2 HPM HB
  go_wp2_with fail
  refine (HNH.out _ HB2.out).mono ?_
  rintro e w3 ⟨rfl, hb3⟩
  have HB3 := Lib.hid (HB2.out.trans (hb3.mono HB2.out.size))
  clear hb3 HNH HB2
  go_wp2
  go_ret
  exact ⟨rfl, HB3.out⟩

set_option maxRecDepth 100000 in
set_option maxHeartbeats 2000000 in
theorem ltake_o00 (h : Ar w 92 g base cap A c bs) (hb : base ≤ 4611686018427387904) (n : Nat) (hn : bs.length = n) (hl : n ≤ 16384) (q k f m p : Nat) (hk : freeI bs (q : Int) = (k : Int)) (hf : wordN bs (8 + 8 * k) = f) (hm : wordN bs (q + 8) = m) (hp : wordN bs (q + 16) = p) (hp0 : p = 0) (hfq : f = q) (hn0 : m = 0) :
    Calls Tryz.prog 116 #[.pointer (some ⟨g, 0, none⟩), .int .i64 (q : Int)] w fun e w' => e = .returned (errV true 3) ∧ Became 92 g base cap A (markB (lyN bs (8 + 8 * k) m) k) w w' := by
  obtain ⟨q184, q32, k22⟩ := freeI_in hk
  have hfl : f < 18446744073709551616 := by rw [← hf]; exact wordN_lt _ _
  have hml : m < 18446744073709551616 := by rw [← hm]; exact wordN_lt _ _
  have hpl : p < 18446744073709551616 := by rw [← hp]; exact wordN_lt _ _
  have HF := Lib.hid (lfree_yes h hb (by omega) (q : Int) (by omega) k hk)
  have HFA := Lib.hid (fun W => lfirst_any W k k22)
  have HNF := Lib.hid (fun W (hB : Below w.heap.size w W) => lnumber_any (h.below hB) hb (by omega) (8 + 8 * (k : Int)) (8 + 8 * k) (by omega) (by omega) f hf)
  have HNM := Lib.hid (fun W (hB : Below w.heap.size w W) => lnumber_any (h.below hB) hb (by omega) ((q : Int) + 8) (q + 8) (by omega) (by omega) m hm)
  have HNP := Lib.hid (fun W (hB : Below w.heap.size w W) => lnumber_any (h.below hB) hb (by omega) ((q : Int) + 16) (q + 16) (by omega) (by omega) p hp)
  have hq2 : q + 32 ≤ n := by omega
  have hq3 : 184 ≤ q := by omega
  have s1 : ((p : Int) == 0) = true := by subst hp0; rfl
  have s1b : ((p : Int) != 0) = false := by subst hp0; rfl
  have s2 : ((f : Int) != (q : Int)) = false := by rw [bne_eq_false_iff_eq]; omega
  have s3 : ((m : Int) != 0) = false := by subst hn0; rfl
  have s4 : ((f : Int) == (q : Int)) = true := by rw [beq_iff_eq]; omega
  have HBO := Lib.hid (fun W (hB : Below w.heap.size w W) => became_of h hB)
  have HSF := Lib.hid (fun W (hB : Became 92 g base cap A bs w W) => became_first hB hb n hn hl (by omega) k k22 m (by omega))
  clear h hk hf hn hm hp hp0 hfq hn0
  go_enter Tryz.func116, Tryz.ntmps116
  go_wp2_with fail
  with_reducible refine HF.out.mono ?_
  rintro e w1 ⟨rfl, hb1⟩
  have HB := Lib.hid hb1
  clear hb1 HF
  go_wp2_with fail
  refine (HFA.out _).mono ?_
  rintro e w9 ⟨rfl, rfl⟩
  go_wp2_with fail
  refine (HNF.out _ HB.out).mono ?_
  rintro e w9 ⟨rfl, rfl⟩
  go_wp2_with fail
  refine (HNM.out _ HB.out).mono ?_
  rintro e w9 ⟨rfl, rfl⟩
  go_wp2_with fail
  refine (HNP.out _ HB.out).mono ?_
  rintro e w9 ⟨rfl, rfl⟩
  clear HFA HNF HNM HNP
  have G0 := Lib.hid (HBO.out _ HB.out)
  clear HBO HB
  go_wp2_with fail
  refine (HSF.out _ G0.out).mono ?_
  rintro e x9 ⟨rfl, bb⟩
  have G9 := Lib.hid bb
  clear bb HSF G0
  go_wp2
  go_ret
  exact ⟨rfl, G9.out⟩

set_option maxRecDepth 100000 in
set_option maxHeartbeats 2000000 in
theorem ltake_o01 (h : Ar w 92 g base cap A c bs) (hb : base ≤ 4611686018427387904) (n : Nat) (hn : bs.length = n) (hl : n ≤ 16384) (q k f m p : Nat) (hk : freeI bs (q : Int) = (k : Int)) (hf : wordN bs (8 + 8 * k) = f) (hm : wordN bs (q + 8) = m) (hp : wordN bs (q + 16) = p) (hp0 : p = 0) (hfq : f = q) (hn0 : m ≠ 0) (hnm : memHas bs k m 16 q = true) :
    Calls Tryz.prog 116 #[.pointer (some ⟨g, 0, none⟩), .int .i64 (q : Int)] w fun e w' => e = .returned (errV true 3) ∧ Became 92 g base cap A (markB (lyN (lyN bs (m + 16) p) (8 + 8 * k) m) k) w w' := by
  obtain ⟨q184, q32, k22⟩ := freeI_in hk
  have hfl : f < 18446744073709551616 := by rw [← hf]; exact wordN_lt _ _
  have hml : m < 18446744073709551616 := by rw [← hm]; exact wordN_lt _ _
  have hpl : p < 18446744073709551616 := by rw [← hp]; exact wordN_lt _ _
  have HF := Lib.hid (lfree_yes h hb (by omega) (q : Int) (by omega) k hk)
  have HFA := Lib.hid (fun W => lfirst_any W k k22)
  have HNF := Lib.hid (fun W (hB : Below w.heap.size w W) => lnumber_any (h.below hB) hb (by omega) (8 + 8 * (k : Int)) (8 + 8 * k) (by omega) (by omega) f hf)
  have HNM := Lib.hid (fun W (hB : Below w.heap.size w W) => lnumber_any (h.below hB) hb (by omega) ((q : Int) + 8) (q + 8) (by omega) (by omega) m hm)
  have HNP := Lib.hid (fun W (hB : Below w.heap.size w W) => lnumber_any (h.below hB) hb (by omega) ((q : Int) + 16) (q + 16) (by omega) (by omega) p hp)
  have hq2 : q + 32 ≤ n := by omega
  have hq3 : 184 ≤ q := by omega
  have s1 : ((p : Int) == 0) = true := by subst hp0; rfl
  have s1b : ((p : Int) != 0) = false := by subst hp0; rfl
  have s2 : ((f : Int) != (q : Int)) = false := by rw [bne_eq_false_iff_eq]; omega
  have HNH := Lib.hid (fun W (hB : Below w.heap.size w W) => lhas_any (h.below hB) hb (by omega) k m 16 q k22 hml (by omega) _ hnm)
  have s3 : ((m : Int) != 0) = true := by rw [bne_iff_ne]; omega
  have s4 : ((f : Int) == (q : Int)) = true := by rw [beq_iff_eq]; omega
  have hnin := memberB_in (memHas_mem hnm)
  have hn16 : m + 32 ≤ n := by omega
  have HBO := Lib.hid (fun W (hB : Below w.heap.size w W) => became_of h hB)
  obtain ⟨b1, hb1⟩ : ∃ b, lyN bs (m + 16) p = b := ⟨_, rfl⟩
  have nb1 : b1.length = n := by rw [← hb1, lyN_length _ _ _ (by omega)]; exact hn
  have HS1 := fun W (hB : Became 92 g base cap A bs w W) => became_set hB hb (by omega) ((m : Int) + 16) (m + 16) (by omega) (by omega) p hpl
  rw [hb1] at HS1 ⊢
  have HS1 := Lib.hid HS1
  have HSF := Lib.hid (fun W (hB : Became 92 g base cap A b1 w W) => became_first hB hb n nb1 hl (by omega) k k22 m (by omega))
  clear hb1 nb1
  clear h hk hf hn hm hp hnm hp0 hfq
  go_enter Tryz.func116, Tryz.ntmps116
  go_wp2_with fail
  with_reducible refine HF.out.mono ?_
  rintro e w1 ⟨rfl, hb1⟩
  have HB := Lib.hid hb1
  clear hb1 HF
  go_wp2_with fail
  refine (HFA.out _).mono ?_
  rintro e w9 ⟨rfl, rfl⟩
  go_wp2_with fail
  refine (HNF.out _ HB.out).mono ?_
  rintro e w9 ⟨rfl, rfl⟩
  go_wp2_with fail
  refine (HNM.out _ HB.out).mono ?_
  rintro e w9 ⟨rfl, rfl⟩
  go_wp2_with fail
  refine (HNP.out _ HB.out).mono ?_
  rintro e w9 ⟨rfl, rfl⟩
  clear HFA HNF HNM HNP
  go_wp2_with fail
  refine (HNH.out _ HB.out).mono ?_
  rintro e w3 ⟨rfl, hb3⟩
  have HB3 := Lib.hid (HB.out.trans (hb3.mono HB.out.size))
  clear hb3 HNH HB
  have G0 := Lib.hid (HBO.out _ HB3.out)
  clear HBO HB3
  go_wp2_with fail
  refine (HS1.out _ G0.out).mono ?_
  rintro e x1 ⟨rfl, bb⟩
  have G1 := Lib.hid bb
  clear bb HS1 G0
  go_wp2_with fail
  refine (HSF.out _ G1.out).mono ?_
  rintro e x9 ⟨rfl, bb⟩
  have G9 := Lib.hid bb
  clear bb HSF G1
  go_wp2
  go_ret
  exact ⟨rfl, G9.out⟩

set_option maxRecDepth 100000 in
set_option maxHeartbeats 2000000 in
theorem ltake_o10 (h : Ar w 92 g base cap A c bs) (hb : base ≤ 4611686018427387904) (n : Nat) (hn : bs.length = n) (hl : n ≤ 16384) (q k f m p : Nat) (hk : freeI bs (q : Int) = (k : Int)) (hf : wordN bs (8 + 8 * k) = f) (hm : wordN bs (q + 8) = m) (hp : wordN bs (q + 16) = p) (hp0 : p ≠ 0) (hpm : memHas bs k p 8 q = true) (hn0 : m = 0) (hfq : f = q) :
    Calls Tryz.prog 116 #[.pointer (some ⟨g, 0, none⟩), .int .i64 (q : Int)] w fun e w' => e = .returned (errV true 3) ∧ Became 92 g base cap A (markB (lyN (lyN bs (p + 8) m) (8 + 8 * k) m) k) w w' := by
  obtain ⟨q184, q32, k22⟩ := freeI_in hk
  have hfl : f < 18446744073709551616 := by rw [← hf]; exact wordN_lt _ _
  have hml : m < 18446744073709551616 := by rw [← hm]; exact wordN_lt _ _
  have hpl : p < 18446744073709551616 := by rw [← hp]; exact wordN_lt _ _
  have HF := Lib.hid (lfree_yes h hb (by omega) (q : Int) (by omega) k hk)
  have HFA := Lib.hid (fun W => lfirst_any W k k22)
  have HNF := Lib.hid (fun W (hB : Below w.heap.size w W) => lnumber_any (h.below hB) hb (by omega) (8 + 8 * (k : Int)) (8 + 8 * k) (by omega) (by omega) f hf)
  have HNM := Lib.hid (fun W (hB : Below w.heap.size w W) => lnumber_any (h.below hB) hb (by omega) ((q : Int) + 8) (q + 8) (by omega) (by omega) m hm)
  have HNP := Lib.hid (fun W (hB : Below w.heap.size w W) => lnumber_any (h.below hB) hb (by omega) ((q : Int) + 16) (q + 16) (by omega) (by omega) p hp)
  have hq2 : q + 32 ≤ n := by omega
  have hq3 : 184 ≤ q := by omega
  have s1 : ((p : Int) == 0) = false := by rw [beq_eq_false_iff_ne]; omega
  have s1b : ((p : Int) != 0) = true := by rw [bne_iff_ne]; omega
  have HPM := Lib.hid (fun W (hB : Below w.heap.size w W) => lhas_any (h.below hB) hb (by omega) k p 8 q k22 hpl (by omega) _ hpm)
  have s3 : ((m : Int) != 0) = false := by subst hn0; rfl
  have s4 : ((f : Int) == (q : Int)) = true := by rw [beq_iff_eq]; omega
  have hpin := memberB_in (memHas_mem hpm)
  have hp8 : p + 32 ≤ n := by omega
  have HBO := Lib.hid (fun W (hB : Below w.heap.size w W) => became_of h hB)
  obtain ⟨b1, hb1⟩ : ∃ b, lyN bs (p + 8) m = b := ⟨_, rfl⟩
  have nb1 : b1.length = n := by rw [← hb1, lyN_length _ _ _ (by omega)]; exact hn
  have HS1 := fun W (hB : Became 92 g base cap A bs w W) => became_set hB hb (by omega) ((p : Int) + 8) (p + 8) (by omega) (by omega) m hml
  rw [hb1] at HS1 ⊢
  have HS1 := Lib.hid HS1
  have HSF := Lib.hid (fun W (hB : Became 92 g base cap A b1 w W) => became_first hB hb n nb1 hl (by omega) k k22 m (by omega))
  clear hb1 nb1
  clear h hk hf hn hm hp hpm hfq hn0
  go_enter Tryz.func116, Tryz.ntmps116
  go_wp2_with fail
  with_reducible refine HF.out.mono ?_
  rintro e w1 ⟨rfl, hb1⟩
  have HB := Lib.hid hb1
  clear hb1 HF
  go_wp2_with fail
  refine (HFA.out _).mono ?_
  rintro e w9 ⟨rfl, rfl⟩
  go_wp2_with fail
  refine (HNF.out _ HB.out).mono ?_
  rintro e w9 ⟨rfl, rfl⟩
  go_wp2_with fail
  refine (HNM.out _ HB.out).mono ?_
  rintro e w9 ⟨rfl, rfl⟩
  go_wp2_with fail
  refine (HNP.out _ HB.out).mono ?_
  rintro e w9 ⟨rfl, rfl⟩
  clear HFA HNF HNM HNP
  go_wp2_with fail
  refine (HPM.out _ HB.out).mono ?_
  rintro e w2 ⟨rfl, hb2⟩
  have HB2 := Lib.hid (HB.out.trans (hb2.mono HB.out.size))
  clear hb2 HPM HB
  have G0 := Lib.hid (HBO.out _ HB2.out)
  clear HBO HB2
  go_wp2_with fail
  refine (HS1.out _ G0.out).mono ?_
  rintro e x1 ⟨rfl, bb⟩
  have G1 := Lib.hid bb
  clear bb HS1 G0
  go_wp2_with fail
  refine (HSF.out _ G1.out).mono ?_
  rintro e x9 ⟨rfl, bb⟩
  have G9 := Lib.hid bb
  clear bb HSF G1
  go_wp2
  go_ret
  exact ⟨rfl, G9.out⟩

set_option maxRecDepth 100000 in
set_option maxHeartbeats 2000000 in
theorem ltake_o11 (h : Ar w 92 g base cap A c bs) (hb : base ≤ 4611686018427387904) (n : Nat) (hn : bs.length = n) (hl : n ≤ 16384) (q k f m p : Nat) (hk : freeI bs (q : Int) = (k : Int)) (hf : wordN bs (8 + 8 * k) = f) (hm : wordN bs (q + 8) = m) (hp : wordN bs (q + 16) = p) (hp0 : p ≠ 0) (hpm : memHas bs k p 8 q = true) (hn0 : m ≠ 0) (hnm : memHas bs k m 16 q = true) (hfq : f = q) :
    Calls Tryz.prog 116 #[.pointer (some ⟨g, 0, none⟩), .int .i64 (q : Int)] w fun e w' => e = .returned (errV true 3) ∧ Became 92 g base cap A (markB (lyN (lyN (lyN bs (p + 8) m) (m + 16) p) (8 + 8 * k) m) k) w w' := by
  obtain ⟨q184, q32, k22⟩ := freeI_in hk
  have hfl : f < 18446744073709551616 := by rw [← hf]; exact wordN_lt _ _
  have hml : m < 18446744073709551616 := by rw [← hm]; exact wordN_lt _ _
  have hpl : p < 18446744073709551616 := by rw [← hp]; exact wordN_lt _ _
  have HF := Lib.hid (lfree_yes h hb (by omega) (q : Int) (by omega) k hk)
  have HFA := Lib.hid (fun W => lfirst_any W k k22)
  have HNF := Lib.hid (fun W (hB : Below w.heap.size w W) => lnumber_any (h.below hB) hb (by omega) (8 + 8 * (k : Int)) (8 + 8 * k) (by omega) (by omega) f hf)
  have HNM := Lib.hid (fun W (hB : Below w.heap.size w W) => lnumber_any (h.below hB) hb (by omega) ((q : Int) + 8) (q + 8) (by omega) (by omega) m hm)
  have HNP := Lib.hid (fun W (hB : Below w.heap.size w W) => lnumber_any (h.below hB) hb (by omega) ((q : Int) + 16) (q + 16) (by omega) (by omega) p hp)
  have hq2 : q + 32 ≤ n := by omega
  have hq3 : 184 ≤ q := by omega
  have s1 : ((p : Int) == 0) = false := by rw [beq_eq_false_iff_ne]; omega
  have s1b : ((p : Int) != 0) = true := by rw [bne_iff_ne]; omega
  have HPM := Lib.hid (fun W (hB : Below w.heap.size w W) => lhas_any (h.below hB) hb (by omega) k p 8 q k22 hpl (by omega) _ hpm)
  have HNH := Lib.hid (fun W (hB : Below w.heap.size w W) => lhas_any (h.below hB) hb (by omega) k m 16 q k22 hml (by omega) _ hnm)
  have s3 : ((m : Int) != 0) = true := by rw [bne_iff_ne]; omega
  have s4 : ((f : Int) == (q : Int)) = true := by rw [beq_iff_eq]; omega
  have hpin := memberB_in (memHas_mem hpm)
  have hp8 : p + 32 ≤ n := by omega
  have hnin := memberB_in (memHas_mem hnm)
  have hn16 : m + 32 ≤ n := by omega
  have HBO := Lib.hid (fun W (hB : Below w.heap.size w W) => became_of h hB)
  obtain ⟨b1, hb1⟩ : ∃ b, lyN bs (p + 8) m = b := ⟨_, rfl⟩
  have nb1 : b1.length = n := by rw [← hb1, lyN_length _ _ _ (by omega)]; exact hn
  have HS1 := fun W (hB : Became 92 g base cap A bs w W) => became_set hB hb (by omega) ((p : Int) + 8) (p + 8) (by omega) (by omega) m hml
  rw [hb1] at HS1 ⊢
  have HS1 := Lib.hid HS1
  obtain ⟨b2, hb2⟩ : ∃ b, lyN b1 (m + 16) p = b := ⟨_, rfl⟩
  have nb2 : b2.length = n := by rw [← hb2, lyN_length _ _ _ (by omega)]; exact nb1
  have HS2 := fun W (hB : Became 92 g base cap A b1 w W) => became_set hB hb (by omega) ((m : Int) + 16) (m + 16) (by omega) (by omega) p hpl
  rw [hb2] at HS2 ⊢
  have HS2 := Lib.hid HS2
  have HSF := Lib.hid (fun W (hB : Became 92 g base cap A b2 w W) => became_first hB hb n nb2 hl (by omega) k k22 m (by omega))
  clear hb1 nb1 hb2 nb2
  clear h hk hf hn hm hp hpm hnm hfq
  go_enter Tryz.func116, Tryz.ntmps116
  go_wp2_with fail
  with_reducible refine HF.out.mono ?_
  rintro e w1 ⟨rfl, hb1⟩
  have HB := Lib.hid hb1
  clear hb1 HF
  go_wp2_with fail
  refine (HFA.out _).mono ?_
  rintro e w9 ⟨rfl, rfl⟩
  go_wp2_with fail
  refine (HNF.out _ HB.out).mono ?_
  rintro e w9 ⟨rfl, rfl⟩
  go_wp2_with fail
  refine (HNM.out _ HB.out).mono ?_
  rintro e w9 ⟨rfl, rfl⟩
  go_wp2_with fail
  refine (HNP.out _ HB.out).mono ?_
  rintro e w9 ⟨rfl, rfl⟩
  clear HFA HNF HNM HNP
  go_wp2_with fail
  refine (HPM.out _ HB.out).mono ?_
  rintro e w2 ⟨rfl, hb2⟩
  have HB2 := Lib.hid (HB.out.trans (hb2.mono HB.out.size))
  clear hb2 HPM HB
  go_wp2_with fail
  refine (HNH.out _ HB2.out).mono ?_
  rintro e w3 ⟨rfl, hb3⟩
  have HB3 := Lib.hid (HB2.out.trans (hb3.mono HB2.out.size))
  clear hb3 HNH HB2
  have G0 := Lib.hid (HBO.out _ HB3.out)
  clear HBO HB3
  go_wp2_with fail
  refine (HS1.out _ G0.out).mono ?_
  rintro e x1 ⟨rfl, bb⟩
  have G1 := Lib.hid bb
  clear bb HS1 G0
  go_wp2_with fail
  refine (HS2.out _ G1.out).mono ?_
  rintro e x2 ⟨rfl, bb⟩
  have G2 := Lib.hid bb
  clear bb HS2 G1
  go_wp2_with fail
  refine (HSF.out _ G2.out).mono ?_
  rintro e x9 ⟨rfl, bb⟩
  have G9 := Lib.hid bb
  clear bb HSF G2
  go_wp2
  go_ret
  exact ⟨rfl, G9.out⟩

set_option maxRecDepth 100000 in
set_option maxHeartbeats 2000000 in
theorem ltake_k10 (h : Ar w 92 g base cap A c bs) (hb : base ≤ 4611686018427387904) (n : Nat) (hn : bs.length = n) (hl : n ≤ 16384) (q k f m p : Nat) (hk : freeI bs (q : Int) = (k : Int)) (hf : wordN bs (8 + 8 * k) = f) (hm : wordN bs (q + 8) = m) (hp : wordN bs (q + 16) = p) (hp0 : p ≠ 0) (hpm : memHas bs k p 8 q = true) (hn0 : m = 0) (hfq : f ≠ q) :
    Calls Tryz.prog 116 #[.pointer (some ⟨g, 0, none⟩), .int .i64 (q : Int)] w fun e w' => e = .returned (errV true 3) ∧ Became 92 g base cap A (markB (lyN (lyN bs (p + 8) m) (8 + 8 * k) f) k) w w' := by
  obtain ⟨q184, q32, k22⟩ := freeI_in hk
  have hfl : f < 18446744073709551616 := by rw [← hf]; exact wordN_lt _ _
  have hml : m < 18446744073709551616 := by rw [← hm]; exact wordN_lt _ _
  have hpl : p < 18446744073709551616 := by rw [← hp]; exact wordN_lt _ _
  have HF := Lib.hid (lfree_yes h hb (by omega) (q : Int) (by omega) k hk)
  have HFA := Lib.hid (fun W => lfirst_any W k k22)
  have HNF := Lib.hid (fun W (hB : Below w.heap.size w W) => lnumber_any (h.below hB) hb (by omega) (8 + 8 * (k : Int)) (8 + 8 * k) (by omega) (by omega) f hf)
  have HNM := Lib.hid (fun W (hB : Below w.heap.size w W) => lnumber_any (h.below hB) hb (by omega) ((q : Int) + 8) (q + 8) (by omega) (by omega) m hm)
  have HNP := Lib.hid (fun W (hB : Below w.heap.size w W) => lnumber_any (h.below hB) hb (by omega) ((q : Int) + 16) (q + 16) (by omega) (by omega) p hp)
  have hq2 : q + 32 ≤ n := by omega
  have hq3 : 184 ≤ q := by omega
  have s1 : ((p : Int) == 0) = false := by rw [beq_eq_false_iff_ne]; omega
  have s1b : ((p : Int) != 0) = true := by rw [bne_iff_ne]; omega
  have HPM := Lib.hid (fun W (hB : Below w.heap.size w W) => lhas_any (h.below hB) hb (by omega) k p 8 q k22 hpl (by omega) _ hpm)
  have s3 : ((m : Int) != 0) = false := by subst hn0; rfl
  have s4 : ((f : Int) == (q : Int)) = false := by rw [beq_eq_false_iff_ne]; omega
  have hpin := memberB_in (memHas_mem hpm)
  have hp8 : p + 32 ≤ n := by omega
  have HBO := Lib.hid (fun W (hB : Below w.heap.size w W) => became_of h hB)
  obtain ⟨b1, hb1⟩ : ∃ b, lyN bs (p + 8) m = b := ⟨_, rfl⟩
  have nb1 : b1.length = n := by rw [← hb1, lyN_length _ _ _ (by omega)]; exact hn
  have HS1 := fun W (hB : Became 92 g base cap A bs w W) => became_set hB hb (by omega) ((p : Int) + 8) (p + 8) (by omega) (by omega) m hml
  rw [hb1] at HS1 ⊢
  have HS1 := Lib.hid HS1
  have HSF := Lib.hid (fun W (hB : Became 92 g base cap A b1 w W) => became_first hB hb n nb1 hl (by omega) k k22 f (by omega))
  clear hb1 nb1
  clear h hk hf hn hm hp hpm hn0
  go_enter Tryz.func116, Tryz.ntmps116
  go_wp2_with fail
  with_reducible refine HF.out.mono ?_
  rintro e w1 ⟨rfl, hb1⟩
  have HB := Lib.hid hb1
  clear hb1 HF
  go_wp2_with fail
  refine (HFA.out _).mono ?_
  rintro e w9 ⟨rfl, rfl⟩
  go_wp2_with fail
  refine (HNF.out _ HB.out).mono ?_
  rintro e w9 ⟨rfl, rfl⟩
  go_wp2_with fail
  refine (HNM.out _ HB.out).mono ?_
  rintro e w9 ⟨rfl, rfl⟩
  go_wp2_with fail
  refine (HNP.out _ HB.out).mono ?_
  rintro e w9 ⟨rfl, rfl⟩
  clear HFA HNF HNM HNP
  go_wp2_with fail
  refine (HPM.out _ HB.out).mono ?_
  rintro e w2 ⟨rfl, hb2⟩
  have HB2 := Lib.hid (HB.out.trans (hb2.mono HB.out.size))
  clear hb2 HPM HB
  have G0 := Lib.hid (HBO.out _ HB2.out)
  clear HBO HB2
  go_wp2_with fail
  refine (HS1.out _ G0.out).mono ?_
  rintro e x1 ⟨rfl, bb⟩
  have G1 := Lib.hid bb
  clear bb HS1 G0
  go_wp2_with fail
  refine (HSF.out _ G1.out).mono ?_
  rintro e x9 ⟨rfl, bb⟩
  have G9 := Lib.hid bb
  clear bb HSF G1
  go_wp2
  go_ret
  exact ⟨rfl, G9.out⟩

set_option maxRecDepth 100000 in
set_option maxHeartbeats 2000000 in
theorem ltake_k11 (h : Ar w 92 g base cap A c bs) (hb : base ≤ 4611686018427387904) (n : Nat) (hn : bs.length = n) (hl : n ≤ 16384) (q k f m p : Nat) (hk : freeI bs (q : Int) = (k : Int)) (hf : wordN bs (8 + 8 * k) = f) (hm : wordN bs (q + 8) = m) (hp : wordN bs (q + 16) = p) (hp0 : p ≠ 0) (hpm : memHas bs k p 8 q = true) (hn0 : m ≠ 0) (hnm : memHas bs k m 16 q = true) (hfq : f ≠ q) :
    Calls Tryz.prog 116 #[.pointer (some ⟨g, 0, none⟩), .int .i64 (q : Int)] w fun e w' => e = .returned (errV true 3) ∧ Became 92 g base cap A (markB (lyN (lyN (lyN bs (p + 8) m) (m + 16) p) (8 + 8 * k) f) k) w w' := by
  obtain ⟨q184, q32, k22⟩ := freeI_in hk
  have hfl : f < 18446744073709551616 := by rw [← hf]; exact wordN_lt _ _
  have hml : m < 18446744073709551616 := by rw [← hm]; exact wordN_lt _ _
  have hpl : p < 18446744073709551616 := by rw [← hp]; exact wordN_lt _ _
  have HF := Lib.hid (lfree_yes h hb (by omega) (q : Int) (by omega) k hk)
  have HFA := Lib.hid (fun W => lfirst_any W k k22)
  have HNF := Lib.hid (fun W (hB : Below w.heap.size w W) => lnumber_any (h.below hB) hb (by omega) (8 + 8 * (k : Int)) (8 + 8 * k) (by omega) (by omega) f hf)
  have HNM := Lib.hid (fun W (hB : Below w.heap.size w W) => lnumber_any (h.below hB) hb (by omega) ((q : Int) + 8) (q + 8) (by omega) (by omega) m hm)
  have HNP := Lib.hid (fun W (hB : Below w.heap.size w W) => lnumber_any (h.below hB) hb (by omega) ((q : Int) + 16) (q + 16) (by omega) (by omega) p hp)
  have hq2 : q + 32 ≤ n := by omega
  have hq3 : 184 ≤ q := by omega
  have s1 : ((p : Int) == 0) = false := by rw [beq_eq_false_iff_ne]; omega
  have s1b : ((p : Int) != 0) = true := by rw [bne_iff_ne]; omega
  have HPM := Lib.hid (fun W (hB : Below w.heap.size w W) => lhas_any (h.below hB) hb (by omega) k p 8 q k22 hpl (by omega) _ hpm)
  have HNH := Lib.hid (fun W (hB : Below w.heap.size w W) => lhas_any (h.below hB) hb (by omega) k m 16 q k22 hml (by omega) _ hnm)
  have s3 : ((m : Int) != 0) = true := by rw [bne_iff_ne]; omega
  have s4 : ((f : Int) == (q : Int)) = false := by rw [beq_eq_false_iff_ne]; omega
  have hpin := memberB_in (memHas_mem hpm)
  have hp8 : p + 32 ≤ n := by omega
  have hnin := memberB_in (memHas_mem hnm)
  have hn16 : m + 32 ≤ n := by omega
  have HBO := Lib.hid (fun W (hB : Below w.heap.size w W) => became_of h hB)
  obtain ⟨b1, hb1⟩ : ∃ b, lyN bs (p + 8) m = b := ⟨_, rfl⟩
  have nb1 : b1.length = n := by rw [← hb1, lyN_length _ _ _ (by omega)]; exact hn
  have HS1 := fun W (hB : Became 92 g base cap A bs w W) => became_set hB hb (by omega) ((p : Int) + 8) (p + 8) (by omega) (by omega) m hml
  rw [hb1] at HS1 ⊢
  have HS1 := Lib.hid HS1
  obtain ⟨b2, hb2⟩ : ∃ b, lyN b1 (m + 16) p = b := ⟨_, rfl⟩
  have nb2 : b2.length = n := by rw [← hb2, lyN_length _ _ _ (by omega)]; exact nb1
  have HS2 := fun W (hB : Became 92 g base cap A b1 w W) => became_set hB hb (by omega) ((m : Int) + 16) (m + 16) (by omega) (by omega) p hpl
  rw [hb2] at HS2 ⊢
  have HS2 := Lib.hid HS2
  have HSF := Lib.hid (fun W (hB : Became 92 g base cap A b2 w W) => became_first hB hb n nb2 hl (by omega) k k22 f (by omega))
  clear hb1 nb1 hb2 nb2
  clear h hk hf hn hm hp hpm hnm
  go_enter Tryz.func116, Tryz.ntmps116
  go_wp2_with fail
  with_reducible refine HF.out.mono ?_
  rintro e w1 ⟨rfl, hb1⟩
  have HB := Lib.hid hb1
  clear hb1 HF
  go_wp2_with fail
  refine (HFA.out _).mono ?_
  rintro e w9 ⟨rfl, rfl⟩
  go_wp2_with fail
  refine (HNF.out _ HB.out).mono ?_
  rintro e w9 ⟨rfl, rfl⟩
  go_wp2_with fail
  refine (HNM.out _ HB.out).mono ?_
  rintro e w9 ⟨rfl, rfl⟩
  go_wp2_with fail
  refine (HNP.out _ HB.out).mono ?_
  rintro e w9 ⟨rfl, rfl⟩
  clear HFA HNF HNM HNP
  go_wp2_with fail
  refine (HPM.out _ HB.out).mono ?_
  rintro e w2 ⟨rfl, hb2⟩
  have HB2 := Lib.hid (HB.out.trans (hb2.mono HB.out.size))
  clear hb2 HPM HB
  go_wp2_with fail
  refine (HNH.out _ HB2.out).mono ?_
  rintro e w3 ⟨rfl, hb3⟩
  have HB3 := Lib.hid (HB2.out.trans (hb3.mono HB2.out.size))
  clear hb3 HNH HB2
  have G0 := Lib.hid (HBO.out _ HB3.out)
  clear HBO HB3
  go_wp2_with fail
  refine (HS1.out _ G0.out).mono ?_
  rintro e x1 ⟨rfl, bb⟩
  have G1 := Lib.hid bb
  clear bb HS1 G0
  go_wp2_with fail
  refine (HS2.out _ G1.out).mono ?_
  rintro e x2 ⟨rfl, bb⟩
  have G2 := Lib.hid bb
  clear bb HS2 G1
  go_wp2_with fail
  refine (HSF.out _ G2.out).mono ?_
  rintro e x9 ⟨rfl, bb⟩
  have G9 := Lib.hid bb
  clear bb HSF G2
  go_wp2
  go_ret
  exact ⟨rfl, G9.out⟩

end
theorem memHas_false {bs : List UInt8} {k v j u : Nat} (h : memHas bs k v j u = false) : memberB bs v (k : Int) = false ∨ (wordN bs (v + j) : Int) ≠ (u : Int) := by
  unfold memHas at h
  rw [Bool.and_eq_false_iff, beq_eq_false_iff_ne] at h
  rcases h with h | h
  · exact .inl h
  · exact .inr (by omega)
theorem memHas_true {bs : List UInt8} {k v j u : Nat} (h : memHas bs k v j u = true) : ¬ (memberB bs v (k : Int) = false ∨ (wordN bs (v + j) : Int) ≠ (u : Int)) := by
  unfold memHas at h
  rw [Bool.and_eq_true, beq_iff_eq] at h
  rintro (h1 | h1)
  · rw [h.1] at h1; cases h1
  · exact h1 (by omega)
theorem lyN_swap (bs : List UInt8) (o v e k : Nat) (h1 : o + 8 ≤ e) (h2 : e + 8 ≤ bs.length) : lyN (lyN bs e k) o v = lyN (lyN bs o v) e k := by
  have := layN_swap bs o v e k h1 h2
  simpa only [layN_eq] using this
theorem takeC : TakeC := by
  intro w g base cap c A bs o y h hb hl ho hy
  subst hy
  rcases freeI_cases bs o with hk | ⟨k, hk⟩
  · have e : takeB bs o = none := by unfold takeB; rw [if_pos hk]
    rw [e]
    exact ltake_no h hb _ rfl hl o ho hk
  · obtain ⟨q184, q32, k22⟩ := freeI_in hk
    obtain ⟨q, rfl⟩ : ∃ q : Nat, o = (q : Int) := ⟨o.toNat, by omega⟩
    obtain ⟨f, hf⟩ : ∃ f, wordN bs (8 + 8 * k) = f := ⟨_, rfl⟩
    obtain ⟨m, hm⟩ : ∃ m, wordN bs (q + 8) = m := ⟨_, rfl⟩
    obtain ⟨p, hp⟩ : ∃ p, wordN bs (q + 16) = p := ⟨_, rfl⟩
    have e : takeB bs (q : Int) = if p = 0 ∧ (f : Int) ≠ (q : Int) then none
        else if p ≠ 0 ∧ (memberB bs p (k : Int) = false ∨ (wordN bs (p + 8) : Int) ≠ (q : Int)) then none
        else if m ≠ 0 ∧ (memberB bs m (k : Int) = false ∨ (wordN bs (m + 16) : Int) ≠ (q : Int)) then none
        else some (markB (if p ≠ 0 ∧ (f : Int) = (q : Int) then lyN (if m ≠ 0 then lyN (if p = 0 then lyN bs (8 + 8 * k) m else lyN bs (p + 8) m) (m + 16) p else (if p = 0 then lyN bs (8 + 8 * k) m else lyN bs (p + 8) m)) (8 + 8 * k) m else (if m ≠ 0 then lyN (if p = 0 then lyN bs (8 + 8 * k) m else lyN bs (p + 8) m) (m + 16) p else (if p = 0 then lyN bs (8 + 8 * k) m else lyN bs (p + 8) m))) k) := by
      unfold takeB
      rw [hk, if_neg (by omega)]
      simp only [Int.toNat_natCast, hf, hm, hp]
    rw [e]
    by_cases hp0 : p = 0
    · by_cases hfq : f = q
      · rw [if_neg (by omega), if_neg (by omega)]
        by_cases hm0 : m = 0
        · rw [if_neg (by omega), if_neg (by omega), if_neg (by omega), if_pos hp0]
          exact ltake_o00 h hb _ rfl hl q k f m p hk hf hm hp hp0 hfq hm0
        · cases hmh : memHas bs k m 16 q with
          | false =>
            rw [if_pos ⟨hm0, memHas_false hmh⟩]
            exact ltake_next0 h hb _ rfl hl q k f m p hk hf hm hp hp0 hfq hm0 hmh
          | true =>
            have hin := memberB_in (memHas_mem hmh)
            rw [if_neg (fun h => memHas_true hmh h.2), if_neg (by omega), if_pos hm0, if_pos hp0, ← lyN_swap bs (8 + 8 * k) m (m + 16) p (by omega) (by omega)]
            exact ltake_o01 h hb _ rfl hl q k f m p hk hf hm hp hp0 hfq hm0 hmh
      · rw [if_pos ⟨hp0, by omega⟩]
        exact ltake_first h hb _ rfl hl q k f m p hk hf hm hp hp0 hfq
    · rw [if_neg (fun h => hp0 h.1)]
      cases hph : memHas bs k p 8 q with
      | false =>
        rw [if_pos ⟨hp0, memHas_false hph⟩]
        exact ltake_prev h hb _ rfl hl q k f m p hk hf hm hp hp0 hph
      | true =>
        have hpin := memberB_in (memHas_mem hph)
        rw [if_neg (fun h => memHas_true hph h.2)]
        by_cases hm0 : m = 0
        · rw [if_neg (fun h => h.1 hm0)]
          by_cases hfq : f = q
          · rw [if_pos ⟨hp0, by omega⟩, if_neg (fun h => h hm0), if_neg hp0]
            exact ltake_o10 h hb _ rfl hl q k f m p hk hf hm hp hp0 hph hm0 hfq
          · rw [if_neg (fun h => hfq (by omega)), if_neg (fun h => h hm0), if_neg hp0]
            have e2 : lyN (lyN bs (p + 8) m) (8 + 8 * k) f = lyN bs (p + 8) m := by
              have h1 : wordN (lyN bs (p + 8) m) (8 + 8 * k) = f := by rw [wordN_other _ _ _ _ (by omega) (by omega)]; exact hf
              rw [← h1]
              exact lyN_self _ _ (by rw [lyN_length _ _ _ (by omega)]; omega)
            have := ltake_k10 h hb _ rfl hl q k f m p hk hf hm hp hp0 hph hm0 hfq
            rw [e2] at this
            exact this
        · cases hmh : memHas bs k m 16 q with
          | false =>
            rw [if_pos ⟨hm0, memHas_false hmh⟩]
            exact ltake_next1 h hb _ rfl hl q k f m p hk hf hm hp hp0 hph hm0 hmh
          | true =>
            have hin := memberB_in (memHas_mem hmh)
            rw [if_neg (fun h => memHas_true hmh h.2)]
            by_cases hfq : f = q
            · rw [if_pos ⟨hp0, by omega⟩, if_pos hm0, if_neg hp0]
              exact ltake_o11 h hb _ rfl hl q k f m p hk hf hm hp hp0 hph hm0 hmh hfq
            · rw [if_neg (fun h => hfq (by omega)), if_pos hm0, if_neg hp0]
              have hl1 : (lyN bs (p + 8) m).length = bs.length := lyN_length _ _ _ (by omega)
              have e2 : lyN (lyN (lyN bs (p + 8) m) (m + 16) p) (8 + 8 * k) f = lyN (lyN bs (p + 8) m) (m + 16) p := by
                have h1 : wordN (lyN (lyN bs (p + 8) m) (m + 16) p) (8 + 8 * k) = f := by rw [wordN_other _ _ _ _ (by omega) (by omega), wordN_other _ _ _ _ (by omega) (by omega)]; exact hf
                rw [← h1]
                exact lyN_self _ _ (by rw [lyN_length _ _ _ (by omega)]; omega)
              have := ltake_k11 h hb _ rfl hl q k f m p hk hf hm hp hp0 hph hm0 hmh hfq
              rw [e2] at this
              exact this
end Go.Proofs.YtbemaoncakcnjaaGreat

/- The contract of the program's All. -/
namespace Go.Proofs.YtbemaoncakcnjaaGreat
open Go.RowKit

set_option maxRecDepth 100000 in
set_option maxHeartbeats 4000000 in
theorem allC : AllC := by
  intro w g base cap c A bs k x h hb hl hk hx
  have hk1 : ¬ (k : Int) < 0 := by omega
  have hk2 : ¬ 22 ≤ (k : Int) := by omega
  by_cases h0 : bs.length < 184
  · obtain rfl : none = x := by rw [← hx]; unfold allB; rw [if_pos h0]
    have HL := Lib.hid (len_any h)
    clear hx h
    go_enter Tryz.func90, Tryz.ntmps90
    go_wp2_with fail
    with_reducible refine HL.out.mono ?_
    rintro e w1 ⟨rfl, rfl⟩
    go_wp2
    go_ret2
    exact ⟨none, 0, rfl, World.ownsRow_nil _ _ _ _, Below.refl _ _⟩
  · obtain ⟨f, hf⟩ : ∃ f, wordN bs (8 + 8 * k) = f := ⟨_, rfl⟩
    obtain ⟨b, hbt⟩ : ∃ b, bitN (wordN bs 0) k = b := ⟨_, rfl⟩
    have hfl : f < 18446744073709551616 := by rw [← hf]; exact wordN_lt _ _
    have hx' : (if b ≠ decide (f ≠ 0) then none else allF bs k 1024 0 f) = x := by rw [← hx]; unfold allB; rw [if_neg h0, hf, hbt]
    have HL := Lib.hid (len_any h)
    have HFA := Lib.hid (lfirst_any w k hk)
    have HNF := Lib.hid (lnumber_any h hb hl (8 + 8 * (k : Int)) (8 + 8 * k) (by omega) (by omega) f hf)
    have HBT := Lib.hid (lhasbit_any h hb hl (by omega) k hk b hbt)
    have HAR := Lib.hid h
    have HBASE := Lib.hid hb
    obtain ⟨d, hd⟩ : ∃ d, decide (f ≠ 0) = d := ⟨_, rfl⟩
    have hd2 : ((f : Int) != 0) = d := by
      rw [← hd, Bool.eq_iff_iff, bne_iff_ne, decide_eq_true_eq]; omega
    rw [hd] at hx'
    clear hf hbt hx h hb
    by_cases hbd : b = d
    · subst hbd
      rw [if_neg (by simp)] at hx'
      obtain ⟨i0, hi, hz0, hz1, hz2⟩ := info_parts int_inf
      have HX := Lib.hid hx'
      obtain ⟨B0, hB0⟩ : ∃ B0, w.heap.size = B0 := ⟨_, rfl⟩
      have HB0 := Lib.hid hB0
      have hbb : (b != b) = false := by simp
      clear hx' hB0 hd
      go_enter Tryz.func90, Tryz.ntmps90
      go_wp2_with fail
      with_reducible refine HL.out.mono ?_
      rintro e w1 ⟨rfl, rfl⟩
      go_wp2_with fail
      with_reducible refine HFA.out.mono ?_
      rintro e w1 ⟨rfl, rfl⟩
      go_wp2_with fail
      with_reducible refine HNF.out.mono ?_
      rintro e w1 ⟨rfl, rfl⟩
      go_wp2_with fail
      with_reducible refine HBT.out.mono ?_
      rintro e w1 ⟨rfl, rfl⟩
      clear HL HFA HNF HBT
      go_wp2
      clear hd2
      go_loopw [6, 7, 8] (fun q o t wr => ∃ (p last n : Nat) (l : List Nat), q = .int .u64 (p : Int) ∧ t = .int .u64 (last : Int) ∧ p < 18446744073709551616 ∧ last < 18446744073709551616 ∧ n + l.length = 1024 ∧ x = (allF bs k n last p).map (l ++ ·) ∧ wr.ownsRow B0 3 1 o l.length (l.map iV) ∧ Below B0 w wr) (fun _ o _ _ => match o with | .slice _ n _ => 1024 - n | _ => 0)
      case atStart => exact ⟨f, 0, 1024, [], rfl, rfl, hfl, by omega, rfl, by rw [HX.out]; simp, World.ownsRow_nil _ _ _ _, Below.refl _ _⟩
      case round =>
        obtain ⟨p, last, n, l, rfl, rfl, hp, hlast, hn, hxl, hown, hbw⟩ := hrel
        obtain ⟨A7, c7, rfl⟩ := own_sl hown
        have hBw : B0 ≤ wr.heap.size := by have := hbw.size; have := HB0.out; omega
        by_cases hp0 : p = 0
        · subst hp0
          obtain rfl : x = some l := by rw [hxl]; cases n <;> simp [allF]
          have HB := Lib.hid hbw
          have HO := Lib.hid hown
          clear hxl hown hbw HX HAR HBASE
          go_wp2
          go_ret2
          exact ⟨A7, c7, rfl, by rw [HB0.out]; exact HO.out, by rw [HB0.out]; exact HB.out⟩
        · have hq0 : ((p : Int) != 0) = true := by rw [bne_iff_ne]; omega
          have har := HAR.out.below (by rw [HB0.out]; exact hbw)
          by_cases hn0 : n = 0
          · subst hn0
            obtain rfl : x = none := by rw [hxl]; simp [allF, hp0]
            have e1 : ((l.length : Int) == 1024) = true := by rw [beq_iff_eq]; omega
            have HB := Lib.hid hbw
            clear hxl hown hbw HX HAR HBASE har
            go_wp2
            go_ret2
            exact ⟨none, 0, rfl, World.ownsRow_nil _ _ _ _, by rw [HB0.out]; exact HB.out⟩
          · obtain ⟨n, rfl⟩ : ∃ n', n = n' + 1 := ⟨n - 1, by omega⟩
            have e1 : ((l.length : Int) == 1024) = false := by rw [beq_eq_false_iff_ne]; omega
            have hstep : x = (if memberB bs p (k : Int) = true ∧ wordN bs (p + 16) = last then (allF bs k n p (wordN bs (p + 8))).map (p :: ·) else none).map (l ++ ·) := by
              rw [hxl]
              conv => lhs; unfold allF
              rw [if_neg hp0]
            cases hm : memHas bs k p 16 last with
            | false =>
              rw [if_neg (by
                rintro ⟨h1, h2⟩
                unfold memHas at hm
                rw [h1, h2] at hm
                simp at hm)] at hstep
              obtain rfl : x = none := hstep
              have HM := Lib.hid (lhas_any har HBASE.out hl k p 16 last hk hp (by omega) false hm)
              have HB := Lib.hid hbw
              clear hxl hown hbw HX HAR HBASE har hm
              go_wp2_with fail
              refine HM.out.mono ?_
              rintro e w2 ⟨rfl, hb2⟩
              have HB2 := Lib.hid (HB.out.trans (hb2.mono hBw))
              clear hb2
              go_wp2
              go_ret2
              exact ⟨none, 0, rfl, World.ownsRow_nil _ _ _ _, by rw [HB0.out]; exact HB2.out⟩
            | true =>
              obtain ⟨hm1, hm2⟩ : memberB bs p (k : Int) = true ∧ wordN bs (p + 16) = last := by
                unfold memHas at hm
                rw [Bool.and_eq_true, beq_iff_eq] at hm
                exact hm
              have hpf := memberB_in hm1
              obtain ⟨nx, hnx⟩ : ∃ nx, wordN bs (p + 8) = nx := ⟨_, rfl⟩
              have hnl : nx < 18446744073709551616 := by rw [← hnx]; exact wordN_lt _ _
              rw [if_pos ⟨hm1, hm2⟩, hnx] at hstep
              have hstep' : x = (allF bs k n p nx).map ((l ++ [p]) ++ ·) := by
                rw [hstep, Option.map_map]
                congr 1
                funext r
                simp
              have hp16 : p ≤ 16384 := by omega
              have hww : w.heap.size ≤ wr.heap.size := by have := HB0.out; omega
              have HN := Lib.hid (fun W (hB : Below w.heap.size w W) => lnumber_any (HAR.out.below hB) HBASE.out hl ((p : Int) + 8) (p + 8) (by omega) (by omega) nx hnx)
              have HM := Lib.hid (lhas_any har HBASE.out hl k p 16 last hk hp (by omega) true hm)
              have HB := Lib.hid hbw
              have HS := Lib.hid hstep'
              have HOWN := Lib.hid hown
              have HALT : Hid (∀ k, (Value.slice A7 l.length c7).ownBlock = some k → B0 ≤ k ∧ k < wr.heap.size) := hown.lt
              clear hxl hstep hstep' hown hbw HX hm hm1 hm2 hnx har HAR HBASE
              go_wp2_with fail
              refine HM.out.mono ?_
              rintro e w2 ⟨rfl, hb2⟩
              have H2 := Lib.hid hb2
              have own4 := own_below' (own_below' HOWN.out hb2) ((Below.refl w2.heap.size w2).alloc (Nat.le_refl _) (.cells #[.int .i64 (p : Int)] 3))
              have n4 : (w2.alloc (.cells #[.int .i64 (p : Int)] 3)).heap[w2.heap.size]? = some (.cells #[.int .i64 (p : Int)] 3 (0, 0)) := heap_alloc_new w2 _
              have HNEW : Hid (∀ j u, [Value.int .i64 (p : Int)][j]? = some u → (w2.alloc (.cells #[.int .i64 (p : Int)] 3)).cell? ((⟨w2.heap.size, 0, none⟩ : Addr).add j) = some u) := fun j u hu => by
                have e : (⟨w2.heap.size, 0, none⟩ : Addr).add j = ⟨w2.heap.size, j, none⟩ := by unfold Addr.add; split <;> simp_all
                rw [e, cell_of_row _ _ j _ _ (0, 0) n4]
                simpa using hu
              have HONE : Hid (∀ u ∈ [Value.int .i64 (p : Int)], u.oneCell' = true) := fun u hu => by
                simp at hu
                subst hu; rfl
              have hB4 : B0 ≤ (w2.alloc (.cells #[.int .i64 (p : Int)] 3)).heap.size := by simp; have := hb2.size; omega
              have HB4 : Hid (Below w2.heap.size w2 (w2.alloc (.cells #[.int .i64 (p : Int)] 3))) := (Below.refl w2.heap.size w2).alloc (Nat.le_refl _) _
              have OWN4 := Lib.hid own4
              have hsz2 := hb2.size
              clear own4 n4 hb2 HOWN HM
              go_wp2_with (first
                | (at_builtin; go_must (refine wpList_append_own _ rfl _ _ 73 rfl B0 3 i0 _ 1 8 Tryz.underlying73 hi hz0 hz1 hz2 rfl (by decide) _ l.length (l.map iV) rfl OWN4.out ⟨w2.heap.size, 0, none⟩ 1 1 [.int .i64 (p : Int)] rfl rfl HNEW.out HONE.out (by unfold maxLen; omega) (by omega) hB4 ?_); intro x5 w5 own5 gr5 at5;
                   have gr5' : (w2.alloc (.cells #[.int .i64 (p : Int)] 3)).grownBy w5 (Value.slice A7 l.length c7).ownBlock := gr5; have HB5 : Hid (Below B0 wr w5) := ((H2.out.mono hBw).trans (HB4.out.mono (by omega))).grown gr5' hB4 (fun k hk => (HALT.out k hk).1); have HW5 : Hid (Below w.heap.size w w5) := (show Below w.heap.size w w5 by rw [HB0.out]; exact HB.out.trans HB5.out); have OWN5 : Hid (w5.ownsRow B0 3 1 x5 (l.length + 1) ((l ++ [p]).map iV)) := (show World.ownsRow _ _ _ _ _ _ _ by rw [List.map_append]; exact own5); clear own5 gr5 gr5' at5)
                | fail)
              refine (HN.out w5 HW5.out).mono ?_
              rintro e w6 ⟨rfl, rfl⟩
              have HBE := Lib.hid (HB.out.trans HB5.out)
              clear HN H2 HB4 OWN4 HNEW HONE
              go_wp2
              go_roundw
              case rel => exact ⟨nx, p, n, l ++ [p], rfl, rfl, hnl, hp, by rw [List.length_append, List.length_singleton]; omega, HS.out, by rw [List.length_append, List.length_singleton]; exact OWN5.out, HBE.out⟩
              case measure =>
                obtain ⟨A8, c8, rfl⟩ := own_sl OWN5.out
                simp; omega
    · rw [if_pos hbd] at hx'
      obtain rfl : none = x := hx'
      have hcs : (b = true ∧ d = false) ∨ (b = false ∧ d = true) := by cases b <;> cases d <;> simp_all
      clear hd hbd HAR HBASE
      rcases hcs with ⟨rfl, rfl⟩ | ⟨rfl, rfl⟩
      all_goals
        go_enter Tryz.func90, Tryz.ntmps90
        go_wp2_with fail
        with_reducible refine HL.out.mono ?_
        rintro e w1 ⟨rfl, rfl⟩
        go_wp2_with fail
        with_reducible refine HFA.out.mono ?_
        rintro e w1 ⟨rfl, rfl⟩
        go_wp2_with fail
        with_reducible refine HNF.out.mono ?_
        rintro e w1 ⟨rfl, rfl⟩
        go_wp2_with fail
        with_reducible refine HBT.out.mono ?_
        rintro e w1 ⟨rfl, rfl⟩
        clear HL HFA HNF HBT
        go_wp2
        go_ret2
        exact ⟨none, 0, rfl, World.ownsRow_nil _ _ _ _, Below.refl _ _⟩
end Go.Proofs.YtbemaoncakcnjaaGreat

/- Layer 9's laws: the head (the document's example). -/
namespace Go.Proofs.YtbemaoncakcnjaaGreat
open Go.RowKit

end Go.Proofs.YtbemaoncakcnjaaGreat

/- A row of lists of numbers in memory, beside an arena and a row of bools: how it stands in the walk of ListFirst. -/
namespace Go.Proofs.YtbemaoncakcnjaaGreat
open Go.RowKit

/-- Numbers in a row that is none of the blocks of S. -/
def Rw (S : Nat → Prop) (w : World) (A : Option Addr) (l : List Nat) : Prop := 0 < l.length → ∃ b o, A = some ⟨b, o, none⟩ ∧ b < w.heap.size ∧ ¬ S b ∧ ∀ (j x : Nat), l[j]? = some x → w.cell? ⟨b, o + j, none⟩ = some (.int .i64 (x : Int))
section
variable {S S' : Nat → Prop} {w w' : World} {gl : Nat} {L : Nat → List Nat} {cs : List Value} {A : Option Addr} {l : List Nat}
theorem Rw.keep (h : Rw S w A l) (hz : w.heap.size ≤ w'.heap.size) (hk : ∀ k, k < w.heap.size → ¬ S k → w'.heap[k]? = w.heap[k]? ∧ ¬ S' k) : Rw S' w' A l := fun h0 => by
  obtain ⟨b, o, e, hb, hn, hc⟩ := h h0
  obtain ⟨k1, k2⟩ := hk b hb hn
  exact ⟨b, o, e, Nat.lt_of_lt_of_le hb hz, k2, fun j x hx => (World.cell?_of_block (w := w) (a := ⟨b, o + j, none⟩) k1).trans (hc j x hx)⟩
end

section
variable {wB W W' : World} {g c gl gi : Nat} {A : Option Addr} {bs : List UInt8} {L : Nat → List Nat} {cs : List Value} {inn : List Bool}
end
end Go.Proofs.YtbemaoncakcnjaaGreat

/- Free blocks parted by used ones, and which of them are in their lists: ListFirst's plain part. No program in sight. -/
namespace Go.Proofs.YtbemaoncakcnjaaGreat

section
variable {fr : List Bk} {inn : List Bool} {L : Nat → List Nat} {e k c : Nat} {x : Bk}
end
end Go.Proofs.YtbemaoncakcnjaaGreat

/- The walk of ListFirst. -/
namespace Go.Proofs.YtbemaoncakcnjaaGreat
open Go.RowKit

theorem sl_infb : (Tryz.prog.info? 73).map (fun i => (i.zero, i.size, i.bytes)) = some (some (.slice none 0 0), 1, 24) := by kernel_rfl
theorem made_one (z : Value) (n : Nat) : madeCells #[z] n = (List.replicate n z).toArray := by
  apply Array.ext
  · simp [madeCells]
  · intro i h1 h2
    simp [madeCells, Nat.mod_one]
theorem mk_sls (W : World) : (Instr.makeSlice 47 (.int .i64 22) (.int .i64 22)).run Tryz.prog W = .ok (.slice (some ⟨W.heap.size, 0, none⟩) 22 22) (W.alloc (.cells (List.replicate 22 (Value.slice none 0 0)).toArray 73)) := by
  have h := run_make_row' (P := Tryz.prog) 47 73 (.slice none 0 0) 24 Tryz.underlying47 sl_infb rfl .i64 .i64 22 (by omega) (by omega) W
  rw [made_one] at h
  exact h

theorem run_one_int (w : World) (x : Int) : (Instr.buildSlice 73 1 #[(0, .int .i64 x)]).run Tryz.prog w = .ok (.slice (some ⟨w.heap.size, 0, none⟩) 1 1) (w.alloc (.cells #[.int .i64 x] 3)) := by
  obtain ⟨i0, hi, hz0, hz1, hz2⟩ := info_parts int_inf
  refine run_buildSlice w 73 3 1 _ _ i0 _ Tryz.underlying73 hi hz0 (by omega) (by omega) ?_
  rw [hz1]
  have e : Array.range (1 * 1) = #[0] := by decide
  rw [e]
  simp [Instr.fill, Value.cells]
theorem iv_one (l : List Nat) : ∀ u ∈ l.map iV, u.oneCell' = true := by
  intro u hu
  obtain ⟨x, _, rfl⟩ := List.mem_map.1 hu
  rfl
theorem rw_cells {S : Nat → Prop} {w : World} {ad : Addr} {l : List Nat} (h : Rw S w (some ad) l) : ∀ j u, (l.map iV)[j]? = some u → w.cell? (ad.add j) = some u := by
  intro j u hu
  rw [List.getElem?_map, Option.map_eq_some_iff] at hu
  obtain ⟨x, hx, rfl⟩ := hu
  have hj : j < l.length := by
    rcases Nat.lt_or_ge j l.length with h1 | h1
    · exact h1
    · rw [List.getElem?_eq_none h1] at hx; cases hx
  obtain ⟨b, off, e, _, _, hc⟩ := h (by omega)
  cases e
  have e : (⟨b, off, none⟩ : Addr).add j = ⟨b, off + j, none⟩ := by unfold Addr.add; split <;> simp_all
  rw [e]
  exact hc j x hx
theorem own_one (w : World) (x : Nat) : (w.alloc (.cells #[.int .i64 (x : Int)] 3)).ownsRow w.heap.size 3 1 (.slice (some ⟨w.heap.size, 0, none⟩) 1 1) 1 ([x].map iV) :=
  ⟨rfl, .inr ⟨w.heap.size, 1, _, rfl, Nat.le_refl _, heap_alloc_new w _, Nat.le_refl _, by unfold maxLen; omega, rfl, rfl⟩⟩
/-- append(own, src...) for numbers. -/
theorem append_ints {ops : Array Oper} {rest : List Oper} {o : Oper} {a : Act} {w : World} {Q : Exit → Act → World → Prop} (hgd : o.guard = none) (s x : Operand) (ho : o.op = .call { callee := .builtin .append, args := #[s, x], argTypes := #[73, 73] })
    (base : Nat) (v : Value) (n : Nat) (bs : List Nat) (hs : a.eval s = v) (hown : w.ownsRow base 3 1 v n (bs.map iV))
    (S : Nat → Prop) (A : Option Addr) (c : Nat) (cs : List Nat) (hx : a.eval x = .slice A cs.length c) (hr : Rw S w A cs) (hA : A = none → c = 0)
    (hb : n + cs.length ≤ 1000000) (hbase : base ≤ w.heap.size)
    (h : ∀ v' w', w'.ownsRow base 3 1 v' (n + cs.length) ((bs ++ cs).map iV) → w.grownBy w' v.ownBlock → wpList Tryz.prog ops Q rest (a.put o.dst v') w') : wpList Tryz.prog ops Q (o :: rest) a w := by
  obtain ⟨i0, hi, hz0, hz1, hz2⟩ := info_parts int_inf
  rcases A with _ | ad
  · obtain rfl := hA rfl
    have hm : cs.length = 0 := by
      rcases Nat.eq_zero_or_pos cs.length with h0 | h0
      · exact h0
      · obtain ⟨_, _, e1, _⟩ := hr h0
        cases e1
    obtain rfl : cs = [] := List.eq_nil_of_length_eq_zero hm
    refine wpList_append_own_none hgd s x 73 ho base 3 i0 1 Tryz.underlying73 hi v n _ hs hown hx ?_
    exact h v w (by simpa using hown) (World.grownBy.refl w _)
  · refine wpList_append_own w hgd s x 73 ho base 3 i0 (.int .i64 0) 1 8 Tryz.underlying73 hi hz0 hz1 hz2 rfl (by decide) v n _ hs hown ad cs.length c (cs.map iV) hx (by simp) (rw_cells hr) (iv_one cs) (by unfold maxLen; omega) (by omega) hbase ?_
    intro v' w' h1 h2 _
    exact h v' w' (by simpa using h1) h2
/-- A row of this call's own is none of what was there. -/
theorem rw_own {S : Nat → Prop} {w : World} {base n : Nat} {A : Option Addr} {c : Nat} {l : List Nat} (h : w.ownsRow base 3 1 (.slice A n c) n (l.map iV)) (hn : n = l.length) (hS : ∀ k, base ≤ k → ¬ S k) : Rw S w A l ∧ (A = none → c = 0) := by
  refine ⟨fun h0 => ?_, fun e => ?_⟩
  · rcases h.2 with ⟨_, h0'⟩ | ⟨g, _, _, h', _⟩
    · omega
    · injection h' with e
      subst e
      refine ⟨g, 0, rfl, (h.lt g rfl).2, hS g (h.lt g rfl).1, fun j x hx => ?_⟩
      have hj : j < l.length := by
        rcases Nat.lt_or_ge j l.length with h | h
        · exact h
        · rw [List.getElem?_eq_none h] at hx; cases hx
      rw [Nat.zero_add, h.cellAt j (by omega), List.getElem?_map, hx]
      rfl
  · subst e
    rcases h.2 with ⟨h', _⟩ | ⟨_, _, _, h', _⟩
    · injection h' with _ _ e
    · injection h' with e; cases e
end Go.Proofs.YtbemaoncakcnjaaGreat


/- What the program's fits (layer 10) are to tell: the words in which the laws ask for it. -/
namespace Go.Proofs.YtbemaoncakcnjaaGreat
open Go.RowKit

/-- What Find tells. -/
def findV (bs : List UInt8) (s : Int) : Value := if isSz s = true then .tuple #[.int .i64 (((findB bs s).getD 0 : Nat) : Int), errV (findB bs s).isSome 3] else .tuple #[.int .i64 0, errV false 1]
def FindC : Prop := ∀ (w : World) (g base cap c : Nat) (A : Option Addr) (bs : List UInt8) (s : Int), Ar w 92 g base cap A c bs → base ≤ 4611686018427387904 → bs.length ≤ 16384 → (-9223372036854775808 ≤ s ∧ s ≤ 9223372036854775807) →
  Calls Tryz.prog 70 #[.pointer (some ⟨g, 0, none⟩), .int .i64 s] w fun e w' => e = .returned (findV bs s) ∧ Below w.heap.size w w'
end Go.Proofs.YtbemaoncakcnjaaGreat

/- The program's fits (layer 10): the lists cleared, a block put behind others, the first of a list that has so many bytes. -/
namespace Go.Proofs.YtbemaoncakcnjaaGreat
open Go.RowKit

section
variable {w : World} {g base cap c : Nat} {A : Option Addr} {bs : List UInt8}
end

section
variable {w w1 w2 : World} {g base cap : Nat} {A : Option Addr} {out : List UInt8}
theorem became_below (h : Became 92 g base cap A out w w1) (hb : Below w1.heap.size w1 w2) : Became 92 g base cap A out w w2 := by
  obtain ⟨A', c', a, tc, k⟩ := h
  exact Became.trans a tc k (became_of a hb)
end

section
variable {w : World} {g base cap c : Nat} {A : Option Addr} {bs : List UInt8}
set_option maxRecDepth 100000 in
set_option maxHeartbeats 2000000 in
theorem ffirst_any (h : Ar w 92 g base cap A c bs) (hb : base ≤ 4611686018427387904) (hl : bs.length ≤ 16384) (A2 : Option Addr) (c2 B1 : Nat) (l : List Nat) (ho : w.ownsRow B1 3 1 (.slice A2 l.length c2) l.length (l.map iV)) (hm : ∀ o ∈ l, o ≤ 20000 ∧ ∃ x, getB bs (o : Int) = some x) (s : Int) (x : Nat) (hx : (l.find? fun o => decide (s ≤ (szB bs o : Int))).getD 0 = x) :
    Calls Tryz.prog 105 #[.pointer (some ⟨g, 0, none⟩), .slice A2 l.length c2, .int .i64 s] w fun e w' => e = .returned (.int .i64 (x : Int)) ∧ Below w.heap.size w w' := by
  have hcl : l.length ≤ c2 ∧ c2 ≤ 9223372036854775807 := by
    rcases ho.2 with ⟨h', h0⟩ | ⟨_, _, _, h', _, _, h1, h2, _⟩
    · injection h' with _ _ e; rw [h0, e]; omega
    · injection h' with _ _ e; unfold maxLen at h2; omega
  have HX := Lib.hid hx
  have HAR := Lib.hid h
  have HO := Lib.hid ho
  have HMEM := Lib.hid hm
  have HBASE := Lib.hid hb
  obtain ⟨B0, hB0⟩ : ∃ B0, w.heap.size = B0 := ⟨_, rfl⟩
  have HB0 := Lib.hid hB0
  clear hx h ho hm hb hB0
  go_enter Tryz.func105, Tryz.ntmps105
  go_wp2
  go_loopw [13] (fun i wr => ∃ j : Nat, j ≤ l.length ∧ i = .int .i64 (j : Int) ∧ (∀ q ∈ l.take j, decide (s ≤ (szB bs q : Int)) = false) ∧ Below B0 w wr) (fun i _ => l.length - (intOf i).toNat)
  case atStart => exact ⟨0, Nat.zero_le _, rfl, by simp, Below.refl _ _⟩
  case round =>
    obtain ⟨j, hj, rfl, hall, hb3⟩ := hrel
    have hBw : B0 ≤ wr.heap.size := by have := hb3.size; have := HB0.out; omega
    by_cases hlt : j < l.length
    · obtain ⟨o, ho⟩ : ∃ o, l[j]? = some o := ⟨l[j], List.getElem?_eq_getElem hlt⟩
      have hb4 : Below w.heap.size w wr := by rw [HB0.out]; exact hb3
      have own3 := own_below' HO.out hb4
      obtain ⟨b2, rfl⟩ : ∃ b2, A2 = some ⟨b2, 0, none⟩ := by
        rcases own3.2 with ⟨_, h0⟩ | ⟨g, _, _, h', _⟩
        · omega
        · injection h' with e; exact ⟨g, e⟩
      have hcell : wr.cell? ⟨b2, j, none⟩ = some (.int .i64 (o : Int)) := by
        rw [own3.cellAt j (by omega), List.getElem?_map, ho]; rfl
      have har := HAR.out.below hb4
      obtain ⟨ho20, ⟨xo, xs, xu⟩, hg⟩ := HMEM.out o (List.mem_of_getElem? ho)
      have hsz := szB_of hg
      dsimp only at hsz
      have hG := getC wr g base cap c A bs (o : Int) _ har HBASE.out hl (by omega) hg
      dsimp only [BlkTold, bkV, Bk.val, Option.isSome, errV] at hG
      have q := (isSz_iff _).1 (getB_some hg).2.2.2.2.1
      dsimp only at q
      have HG := Lib.hid hG
      have HALL := Lib.hid hall
      have HOO := Lib.hid ho
      have HB2R := Lib.hid hb3
      clear hG hg hb3 hb4 own3 hall har ho
      by_cases hge : s ≤ (xs : Int)
      · have hx1 : x = o := by
          rw [← HX.out, find_take HALL.out HOO.out (by rw [hsz]; simpa using hge)]; rfl
        subst hx1
        clear HX
        go_wp2_with fail
        with_reducible refine HG.out.mono ?_
        rintro e w4 ⟨rfl, hb4⟩
        have HB4 := Lib.hid (HB2R.out.trans (hb4.mono hBw))
        have HS4 := Lib.hid hb4.size
        clear hb4
        go_wp2
        go_ret
        exact ⟨rfl, by rw [HB0.out]; exact HB4.out.alloc (by have := HS4.out; omega) _⟩
      · go_wp2_with fail
        with_reducible refine HG.out.mono ?_
        rintro e w4 ⟨rfl, hb4⟩
        have HB4 := Lib.hid (HB2R.out.trans (hb4.mono hBw))
        have HS4 := Lib.hid hb4.size
        clear hb4
        go_wp2
        go_roundw
        case rel => exact ⟨j + 1, by omega, rfl, by
            intro q hq
            rw [List.take_add_one, HOO.out] at hq
            rcases List.mem_append.1 hq with hq | hq
            · exact HALL.out q hq
            · simp at hq
              rw [hq, hsz]
              simpa using hge, HB4.out.alloc (by have := HS4.out; omega) _⟩
        case measure => simp only [intOf]; omega
    · obtain rfl : j = l.length := by omega
      have hx2 : x = 0 := by
        rw [← HX.out, find_none' (by rw [List.take_length] at hall; exact hall)]; rfl
      subst hx2
      have HB4 := Lib.hid hb3
      clear HX hall hb3
      go_wp2
      go_ret
      exact ⟨rfl, by rw [HB0.out]; exact HB4.out⟩
end
end Go.Proofs.YtbemaoncakcnjaaGreat

/- The contract of the program's Find. -/
namespace Go.Proofs.YtbemaoncakcnjaaGreat
open Go.RowKit

set_option maxRecDepth 100000 in
set_option maxHeartbeats 2000000 in
theorem findC : FindC := by
  intro w g base cap c A bs s h hb hl hs
  cases hz : isSz s
  · have hv : findV bs s = .tuple #[.int .i64 0, errV false 1] := by unfold findV; rw [if_neg (by rw [hz]; simp)]
    have hc : classI s = -1 := by simp [classI, hz]
    rw [hv]
    have hC := classC w s hs
    rw [hc] at hC
    have HC := Lib.hid hC
    clear hz hv hc hC h hb
    go_enter Tryz.func70, Tryz.ntmps70
    go_wp2_with fail
    with_reducible refine HC.out.mono ?_
    rintro e w1 ⟨rfl, hb1⟩
    have HB := Lib.hid hb1
    clear hb1
    go_wp2
    go_ret2
    exact ⟨rfl, HB.out⟩
  · obtain ⟨k0, hk0, hk22⟩ : ∃ k0 : Nat, classI s = (k0 : Int) ∧ k0 < 22 := by
      have h1 := classI_bounds s
      have h2 : ¬ classI s < 0 := by rw [classI_neg]; simp [hz]
      exact ⟨(classI s).toNat, by omega, by omega⟩
    obtain ⟨x, hx⟩ : ∃ x, findF bs s (22 - k0) k0 = x := ⟨_, rfl⟩
    have hv : findV bs s = .tuple #[.int .i64 ((x.getD 0 : Nat) : Int), errV x.isSome 3] := by
      unfold findV findB
      rw [if_pos hz, hk0, Int.toNat_natCast, hx]
    rw [hv]
    have hC := classC w s hs
    rw [hk0] at hC
    have HC := Lib.hid hC
    have HX := Lib.hid hx
    have HAR := Lib.hid h
    have HBASE := Lib.hid hb
    obtain ⟨B0, hB0⟩ : ∃ B0, w.heap.size = B0 := ⟨_, rfl⟩
    have HB0 := Lib.hid hB0
    clear hz hv hk0 hC h hx hB0 hb
    go_enter Tryz.func70, Tryz.ntmps70
    go_wp2_with fail
    with_reducible refine HC.out.mono ?_
    rintro e w1 ⟨rfl, hb1⟩
    have HB1 := Lib.hid hb1
    clear hb1 HC
    go_wp2
    go_loopw [7] (fun t wr => ∃ d k : Nat, t = .int .i64 (d : Int) ∧ d + k = 22 ∧ x = findF bs s k d ∧ Below B0 w wr) (fun t _ => 22 - (intOf t).toNat)
    case atStart => exact ⟨k0, 22 - k0, rfl, by omega, HX.out.symm, by rw [← HB0.out]; exact HB1.out⟩
    case round =>
      obtain ⟨d, k, rfl, hdk, hxf, hb2⟩ := hrel
      have hBw : B0 ≤ wr.heap.size := by have := hb2.size; have := HB0.out; omega
      by_cases hd22 : d < 22
      · obtain ⟨k, rfl⟩ : ∃ k', k = k' + 1 := ⟨k - 1, by omega⟩
        have har : Ar wr 92 g base cap A c bs := HAR.out.below (by rw [HB0.out]; exact hb2)
        cases ha : allB bs d with
        | none =>
          obtain rfl : x = none := by rw [hxf]; simp [findF, ha]
          have hA := allC wr g base cap c A bs d _ har HBASE.out hl hd22 ha
          dsimp only [NumsTold, Option.isSome, Option.getD, errV] at hA
          have HA := Lib.hid hA
          have HB := Lib.hid hb2
          clear hA hb2 hxf har HX ha HAR
          go_wp2_with fail
          with_reducible refine HA.out.mono ?_
          rintro e w2 ⟨A', c', rfl, _, hb3⟩
          have HB2 := Lib.hid (HB.out.trans (hb3.mono hBw))
          clear hb3
          go_wp2
          go_ret2
          exact ⟨rfl, by rw [HB0.out]; exact HB2.out⟩
        | some l =>
          have hA := allC wr g base cap c A bs d _ har HBASE.out hl hd22 ha
          dsimp only [NumsTold, Option.isSome, Option.getD, errV] at hA
          have hxf' : x = (match l.find? (fun o => decide (s ≤ (szB bs o : Int))) with
            | some o => some o
            | none => findF bs s k (d + 1)) := by
            rw [hxf]
            conv => lhs; unfold findF
            rw [ha] <;> rfl
          have hmem : ∀ o ∈ l, 184 ≤ o ∧ o ≤ 20000 ∧ ∃ x, getB bs (o : Int) = some x := fun o ho => by
            have hm := allB_member ha o ho
            obtain ⟨h1, x, h2⟩ := memberB_get hm
            have := (memberB_in hm)
            exact ⟨by omega, h1, x, h2⟩
          have HF := Lib.hid (fun (W : World) (hB : Below wr.heap.size wr W) (A2 : Option Addr) (c2 B1 : Nat) (ho : W.ownsRow B1 3 1 (.slice A2 l.length c2) l.length (l.map iV)) => ffirst_any (har.below hB) HBASE.out hl A2 c2 B1 l ho (fun o ho => (hmem o ho).2) s)
          have HA := Lib.hid hA
          have HB := Lib.hid hb2
          have HXF := Lib.hid hxf'
          have HMEM := Lib.hid hmem
          clear hA hb2 hxf hxf' har HX ha hmem HAR
          cases hfd : l.find? (fun o => decide (s ≤ (szB bs o : Int))) with
          | some o =>
            obtain rfl : x = some o := by rw [HXF.out, hfd]
            obtain ⟨o184, o20, _⟩ := HMEM.out o (List.mem_of_find?_eq_some hfd)
            have ho0 : ((o : Int) != 0) = true := by rw [bne_iff_ne]; omega
            have HF2 := Lib.hid (fun W hB A2 c2 B1 ho => HF.out W hB A2 c2 B1 ho o (by rw [hfd]; rfl))
            clear HF HXF hfd HMEM
            go_wp2_with fail
            with_reducible refine HA.out.mono ?_
            rintro e w2 ⟨A2, c2, rfl, ho2, hb3⟩
            have HFF := Lib.hid (HF2.out w2 hb3 A2 c2 _ ho2)
            have HB2 := Lib.hid (HB.out.trans (hb3.mono hBw))
            have hs2 := hb3.size
            clear hb3 ho2 HA HF2
            go_wp2_with fail
            with_reducible refine HFF.out.mono ?_
            rintro e w3 ⟨rfl, hb4⟩
            have HB3 := Lib.hid (HB2.out.trans (hb4.mono (by omega)))
            clear hb4 HFF
            go_wp2
            go_ret2
            exact ⟨rfl, by rw [HB0.out]; exact HB3.out⟩
          | none =>
            have hx2 : x = findF bs s k (d + 1) := by rw [HXF.out, hfd]
            have HF2 := Lib.hid (fun W hB A2 c2 B1 ho => HF.out W hB A2 c2 B1 ho 0 (by rw [hfd]; rfl))
            have HX2 := Lib.hid hx2
            clear HF HXF hfd HMEM hx2
            go_wp2_with fail
            with_reducible refine HA.out.mono ?_
            rintro e w2 ⟨A2, c2, rfl, ho2, hb3⟩
            have HFF : Hid (Calls Tryz.prog 105 #[.pointer (some ⟨g, 0, none⟩), .slice A2 l.length c2, .int .i64 s] w2 fun e w' => e = .returned (.int .i64 0) ∧ Below w2.heap.size w2 w') := HF2.out w2 hb3 A2 c2 _ ho2
            have HB2 := Lib.hid (HB.out.trans (hb3.mono hBw))
            have hs2 := hb3.size
            clear hb3 ho2 HA HF2
            go_wp2_with fail
            with_reducible refine HFF.out.mono ?_
            rintro e w3 ⟨rfl, hb4⟩
            have HB3 := Lib.hid (HB2.out.trans (hb4.mono (by omega)))
            clear hb4 HFF
            go_wp2
            go_roundw
            case rel => exact ⟨d + 1, k, by go_num, by omega, HX2.out, HB3.out⟩
            case measure => simp only [intOf]; omega
      · obtain ⟨rfl, rfl⟩ : d = 22 ∧ k = 0 := by omega
        obtain rfl : x = some 0 := by rw [hxf]; rfl
        have HB := Lib.hid hb2
        clear hxf hb2 HX
        go_wp2
        go_ret2
        exact ⟨rfl, by rw [HB0.out]; exact HB.out⟩
end Go.Proofs.YtbemaoncakcnjaaGreat

/- What the program's check (layer 11) is to tell. -/
namespace Go.Proofs.YtbemaoncakcnjaaGreat
open Go.RowKit

def CheckC : Prop := ∀ (w : World) (g base cap c : Nat) (A : Option Addr) (bs : List UInt8) (x : Bool), Ar w 92 g base cap A c bs → base ≤ 4611686018427387904 → bs.length ≤ 16384 → checkB bs = x →
  Calls Tryz.prog 22 #[.pointer (some ⟨g, 0, none⟩)] w fun e w' => e = .returned (errV x 3) ∧ Below w.heap.size w w'
end Go.Proofs.YtbemaoncakcnjaaGreat

/- Layer 11's laws: the head (the document's example). -/
namespace Go.Proofs.YtbemaoncakcnjaaGreat
open Go.RowKit

end Go.Proofs.YtbemaoncakcnjaaGreat

/- The document's heap in memory: how it lies there; Len, At, Used. -/
namespace Go.Proofs.YtbemaoncakcnjaaGreat
open Go.RowKit

/-- At block p lies a heap: its blocks, its slices of bytes, its lists, each in rows of its own; all of it in the blocks F. -/
structure Hm (F : Nat → Prop) (w : World) (p : Nat) (H : Hp) (Vb Vd : Value) (gl : Nat) (cs : List Value) : Prop where
  obj : w.heap[p]? = some (.cells #[.int .i64 (H.cap : Int), Vb, Vd, .slice (some ⟨gl, 0, none⟩) 22 22] 49 (0, 0))
  ob : w.ownsRow 0 51 3 Vb H.blks.length (flatK H.blks)
  od : w.ownsRow 0 23 1 Vd H.ds.length (H.ds.map Prod.fst)
  row : w.heap[gl]? = some (.cells cs.toArray 73 (0, 0))
  len : cs.length = 22
  at_ : ∀ d, d < 22 → ∃ v, cs[d]? = some v ∧ w.ownsRow 0 3 1 v (H.lists d).length ((H.lists d).map iV)
  fp : F p
  fl : F gl
  fb : ∀ k, Vb.ownBlock = some k → F k
  fd : ∀ k, Vd.ownBlock = some k → F k
  fi : ∀ d v k, d < 22 → cs[d]? = some v → v.ownBlock = some k → F k
  sl : ∀ d ∈ H.ds, ∃ A n c, d.1 = .slice A n c
/-- The same, where its parts lie left open. -/
def HM (F : Nat → Prop) (w : World) (p : Nat) (H : Hp) : Prop := ∃ Vb Vd gl cs, Hm F w p H Vb Vd gl cs
/-- Since w only blocks of the heap have changed, and it has become another. -/
def HT (F : Nat → Prop) (w : World) (p : Nat) (H' : Hp) (w' : World) : Prop := ∃ F', HM F' w' p H' ∧ Tch F w w' ∧ ∀ k, F' k → F k ∨ w.heap.size ≤ k

theorem own_keep {w w' : World} {base n size : Nat} {t : TypeId} {v : Value} {xs : List Value} (h : w.ownsRow base t size v n xs) (hk : ∀ k, v.ownBlock = some k → w'.heap[k]? = w.heap[k]?) : w'.ownsRow base t size v n xs := by
  refine ⟨h.1, ?_⟩
  rcases h.2 with h2 | ⟨g, cap, cur, hv, hg, hh, r⟩
  · exact .inl h2
  · exact .inr ⟨g, cap, cur, hv, hg, (hk g (by rw [hv]; rfl)).trans hh, r⟩
theorem own_base {w : World} {base base' n size : Nat} {t : TypeId} {v : Value} {xs : List Value} (h : w.ownsRow base t size v n xs) (hb : base' ≤ base) : w.ownsRow base' t size v n xs := by
  refine ⟨h.1, ?_⟩
  rcases h.2 with h2 | ⟨g, cap, cur, hv, hg, r⟩
  · exact .inl h2
  · exact .inr ⟨g, cap, cur, hv, Nat.le_trans hb hg, r⟩
/-- Rows of two types are two blocks. -/
theorem own_two {w : World} {base n size : Nat} {t t' : TypeId} {v : Value} {xs : List Value} {g : Nat} {o : Array Value} (h : w.ownsRow base t size v n xs) (hg : w.heap[g]? = some (.cells o t' (0, 0))) (ht : t ≠ t') : ∀ k, v.ownBlock = some k → k ≠ g := fun k hk e => by
  subst e
  rcases h.2 with ⟨rfl, _⟩ | ⟨g, cap, cur, rfl, _, hh, _⟩
  · cases hk
  · injection hk with hk
    have hk : g = k := hk
    subst hk
    rw [hh] at hg
    injection hg with hg
    injection hg with _ hg _
    exact ht hg
theorem own_lt {w : World} {base n size : Nat} {t : TypeId} {v : Value} {xs : List Value} (h : w.ownsRow base t size v n xs) {k : Nat} (hk : v.ownBlock = some k) : k < w.heap.size := (h.lt k hk).2

section
variable {F F' : Nat → Prop} {w w' w2 : World} {p gl : Nat} {H H' : Hp} {Vb Vd : Value} {cs : List Value}
theorem Hm.lt (h : Hm F w p H Vb Vd gl cs) : p < w.heap.size := heap_lt h.obj
theorem Hm.c0 (h : Hm F w p H Vb Vd gl cs) : w.cell? ⟨p, 0, none⟩ = some (.int .i64 (H.cap : Int)) := by rw [cell_of_row w p 0 _ _ (0, 0) h.obj]; rfl
theorem Hm.c1 (h : Hm F w p H Vb Vd gl cs) : w.cell? ⟨p, 1, none⟩ = some Vb := by rw [cell_of_row w p 1 _ _ (0, 0) h.obj]; rfl
theorem Hm.c2 (h : Hm F w p H Vb Vd gl cs) : w.cell? ⟨p, 2, none⟩ = some Vd := by rw [cell_of_row w p 2 _ _ (0, 0) h.obj]; rfl
theorem Hm.c3 (h : Hm F w p H Vb Vd gl cs) : w.cell? ⟨p, 3, none⟩ = some (.slice (some ⟨gl, 0, none⟩) 22 22) := by rw [cell_of_row w p 3 _ _ (0, 0) h.obj]; rfl
theorem Hm.thaw (h : Hm F w p H Vb Vd gl cs) (i : Nat) : w.frozen? ⟨p, i, none⟩ = false := frozen_of_row w p i _ _ h.obj
/-- Nothing of it has changed. -/
theorem Hm.keep (h : Hm F w p H Vb Vd gl cs) (hk : ∀ k, F k → w'.heap[k]? = w.heap[k]?) : Hm F w' p H Vb Vd gl cs :=
  ⟨(hk p h.fp).trans h.obj, own_keep h.ob (fun k e => hk k (h.fb k e)), own_keep h.od (fun k e => hk k (h.fd k e)), (hk gl h.fl).trans h.row, h.len,
   fun d hd => by obtain ⟨v, h1, h2⟩ := h.at_ d hd; exact ⟨v, h1, own_keep h2 (fun k e => hk k (h.fi d v k hd h1 e))⟩, h.fp, h.fl, h.fb, h.fd, h.fi, h.sl⟩
/-- The blocks that it really has. -/
def feet (p gl : Nat) (Vb Vd : Value) (cs : List Value) (k : Nat) : Prop := k = p ∨ k = gl ∨ Vb.ownBlock = some k ∨ Vd.ownBlock = some k ∨ ∃ d v, d < 22 ∧ cs[d]? = some v ∧ v.ownBlock = some k
theorem Hm.tight (h : Hm F w p H Vb Vd gl cs) : Hm (feet p gl Vb Vd cs) w p H Vb Vd gl cs :=
  ⟨h.obj, h.ob, h.od, h.row, h.len, h.at_, .inl rfl, .inr (.inl rfl), fun _ e => .inr (.inr (.inl e)), fun _ e => .inr (.inr (.inr (.inl e))), fun d v _ hd h1 e => .inr (.inr (.inr (.inr ⟨d, v, hd, h1, e⟩))), h.sl⟩
theorem Hm.feetF (h : Hm F w p H Vb Vd gl cs) {k : Nat} (hk : feet p gl Vb Vd cs k) : F k := by
  rcases hk with rfl | rfl | e | e | ⟨d, v, hd, h1, e⟩
  · exact h.fp
  · exact h.fl
  · exact h.fb k e
  · exact h.fd k e
  · exact h.fi d v k hd h1 e
theorem Hm.feet_lt (h : Hm F w p H Vb Vd gl cs) {k : Nat} (hk : feet p gl Vb Vd cs k) : k < w.heap.size := by
  rcases hk with rfl | rfl | e | e | ⟨d, v, hd, h1, e⟩
  · exact h.lt
  · exact heap_lt h.row
  · exact own_lt h.ob e
  · exact own_lt h.od e
  · obtain ⟨v', h1', h2⟩ := h.at_ d hd
    rw [h1] at h1'
    injection h1' with h1'
    subst h1'
    exact own_lt h2 e
theorem Hm.below (h : Hm F w p H Vb Vd gl cs) (hb : Below w.heap.size w w') : Hm F w' p H Vb Vd gl cs := by
  have h1 := h.tight.keep (w' := w') (fun k hk => hb.block k (h.feet_lt hk))
  exact ⟨h1.obj, h1.ob, h1.od, h1.row, h1.len, h1.at_, h.fp, h.fl, h.fb, h.fd, h.fi, h.sl⟩
theorem HM.below (h : HM F w p H) (hb : Below w.heap.size w w') : HM F w' p H := by
  obtain ⟨Vb, Vd, gl, cs, h⟩ := h
  exact ⟨Vb, Vd, gl, cs, h.below hb⟩
theorem HM.tch {S : Nat → Prop} (h : HM F w p H) (ht : Tch S w w') (hd : ∀ k, F k → ¬ S k) : HM F w' p H := by
  obtain ⟨Vb, Vd, gl, cs, h⟩ := h
  have h1 := h.tight.keep (w' := w') (fun k hk => ht.block k (h.feet_lt hk) (hd k (h.feetF hk)))
  exact ⟨Vb, Vd, gl, cs, h1.obj, h1.ob, h1.od, h1.row, h1.len, h1.at_, h.fp, h.fl, h.fb, h.fd, h.fi, h.sl⟩
theorem HT.refl (h : HM F w p H) : HT F w p H w := ⟨F, h, Tch.refl _ _, fun _ hk => .inl hk⟩
theorem HT.of_below (h : HM F w p H) (hb : Below w.heap.size w w') : HT F w p H w' := ⟨F, h.below hb, Tch.of_below hb, fun _ hk => .inl hk⟩
theorem HT.after (hb : Below w.heap.size w w') (h : HT F w' p H' w2) : HT F w p H' w2 := by
  obtain ⟨F1, h1, t1, f1⟩ := h
  exact ⟨F1, h1, (Tch.of_below hb).trans t1 (fun _ _ h => h), fun k hk => (f1 k hk).imp id (fun h => Nat.le_trans hb.size h)⟩
/-- A block's cells. -/
theorem own_blk {w : World} {n : Nat} {V : Value} {l : List Bk} (h : w.ownsRow 0 51 3 V n (flatK l)) {i : Nat} {x : Bk} (hx : l[i]? = some x) : ∃ b c, V = .slice (some ⟨b, 0, none⟩) n c ∧ b < w.heap.size ∧ n = l.length ∧ n ≤ c ∧ (w.cell? ⟨b, i * 3, none⟩ = some (.int .i64 (x.off : Int)) ∧ w.cell? ⟨b, i * 3 + 1, none⟩ = some (.int .i64 (x.size : Int)) ∧ w.cell? ⟨b, i * 3 + 2, none⟩ = some (.bool x.used)) ∧ ∀ j, w.frozen? ⟨b, j, none⟩ = false := by
  have hi : i < l.length := by
    rcases Nat.lt_or_ge i l.length with h' | h'
    · exact h'
    · rw [List.getElem?_eq_none h'] at hx; cases hx
  have hn : n = l.length := by
    have h1 := h.1
    rw [flatK_length] at h1
    omega
  rcases h.2 with ⟨_, h0⟩ | ⟨b, c, cur, rfl, _, hh, hnc, _⟩
  · omega
  · obtain ⟨f0, f1, f2⟩ := flatK_get l i x hx
    refine ⟨b, c, rfl, heap_lt hh, hn, hnc, ⟨?_, ?_, ?_⟩, fun j => frozen_of_row w b j _ _ hh⟩
    · rw [h.cellAt _ (by omega)]; exact f0
    · rw [h.cellAt _ (by omega)]; exact f1
    · rw [h.cellAt _ (by omega)]; exact f2
end
end Go.Proofs.YtbemaoncakcnjaaGreat

/- The contracts of the document's heap: New, Len, At, Used. -/
namespace Go.Proofs.YtbemaoncakcnjaaGreat
open Go.RowKit

/-- A place in a row, or -1. -/
def ixV (x : Option Nat) : Int := match x with
  | some i => (i : Int)
  | none => -1
theorem atB_drop (o : Int) (l : List Bk) (j : Nat) (x : Bk) (hx : l[j]? = some x) (h : atB o l = (atB o (l.drop j)).map (· + j)) :
    ((x.off : Int) = o → atB o l = some j) ∧ ((x.off : Int) ≠ o → atB o l = (atB o (l.drop (j + 1))).map (· + (j + 1))) := by
  have hj : j < l.length := by
    rcases Nat.lt_or_ge j l.length with h' | h'
    · exact h'
    · rw [List.getElem?_eq_none h'] at hx; cases hx
  have e : l[j] = x := by rw [List.getElem?_eq_getElem hj] at hx; injection hx
  rw [List.drop_eq_getElem_cons hj, e] at h
  refine ⟨fun hq => ?_, fun hq => ?_⟩
  · rw [h]
    unfold atB
    rw [if_pos hq]
    simp
  · rw [h]
    rw [atB, if_neg hq]
    cases atB o (l.drop (j + 1)) with
    | none => rfl
    | some k => simp; omega
theorem sumB_take {l : List Bk} {j : Nat} {x : Bk} (hx : l[j]? = some x) : sumB (l.take (j + 1)) = sumB (l.take j) + x.size := by
  rw [List.take_add_one, hx, sumB_app]
  simp [sumB]
theorem sumB_le (l : List Bk) (j : Nat) : sumB (l.take j) ≤ sumB l := by
  have : sumB l = sumB (l.take j) + sumB (l.drop j) := by rw [← sumB_app, List.take_append_drop]
  omega

section
variable {F : Nat → Prop} {w : World} {p gl : Nat} {H : Hp} {Vb Vd : Value} {cs : List Value}
set_option maxHeartbeats 1000000 in
theorem hlen_any (h : Hm F w p H Vb Vd gl cs) (hl : lenB H.blks ≤ 100000) (hn : H.blks.length ≤ 100000) :
    Calls Tryz.prog 75 #[.pointer (some ⟨p, 0, none⟩)] w fun e w' => e = .returned (.int .i64 (lenB H.blks : Int)) ∧ w = w' := by
  have c1 := h.c1
  obtain ⟨A, c, rfl⟩ := own_sl h.ob
  have HO := Lib.hid h.ob
  obtain ⟨l, hL⟩ : ∃ l, H.blks = l := ⟨_, rfl⟩
  obtain ⟨n, hN⟩ : ∃ n, l.length = n := ⟨_, rfl⟩
  rw [hL] at HO hl hn c1 ⊢
  rw [hN] at HO hn c1
  unfold lenB at hl ⊢
  have HN := Lib.hid hN
  clear h hL hN
  go_enter Tryz.func75, Tryz.ntmps75
  go_wp2
  go_loopw [3, 4] (fun s i wr => ∃ j : Nat, s = .int .i64 ((184 + sumB (l.take j) : Nat) : Int) ∧ i = .int .i64 (j : Int) ∧ j ≤ n ∧ w = wr) (fun _ i _ => n - (intOf i).toNat)
  case atStart => exact ⟨0, rfl, rfl, Nat.zero_le _, rfl⟩
  case round =>
    obtain ⟨j, rfl, rfl, hj, rfl⟩ := hrel
    by_cases hlt : j < n
    · obtain ⟨x, hx⟩ : ∃ x, l[j]? = some x := ⟨l[j]'(by rw [HN.out]; exact hlt), List.getElem?_eq_getElem _⟩
      obtain ⟨b, c', hV, hb, _, hnc, ⟨_, d1, _⟩, _⟩ := own_blk HO.out hx
      injection hV with hV1 _ hV3
      subst hV1 hV3
      have hsum := sumB_take hx
      have hle := sumB_le l (j + 1)
      have hji : (j : Int) < (n : Int) := by omega
      obtain ⟨sz, hsz⟩ : ∃ sz, x.size = sz := ⟨_, rfl⟩
      rw [hsz] at d1 hsum
      generalize hsm : sumB (l.take j) = sm at hsum ⊢
      have HS := Lib.hid hsum
      have hq : 184 + sm + sz ≤ 100000 := by omega
      clear hx hsum hsm hle hsz
      go_wp2
      go_roundw
      case rel => exact ⟨j + 1, by rw [HS.out]; go_num, by go_num, by omega, trivial⟩
      case measure => simp only [intOf]; omega
    · obtain rfl : n = j := by omega
      have hle := sumB_le l n
      have e : sumB (l.take n) = sumB l := by rw [List.take_of_length_le (by rw [HN.out]; exact Nat.le_refl _)]
      have HE := Lib.hid e
      clear e
      go_wp2
      go_ret
      exact ⟨rt_i (by rw [HE.out]), rfl⟩

set_option maxHeartbeats 1000000 in
theorem hat_any (h : Hm F w p H Vb Vd gl cs) (hn : H.blks.length ≤ 100000) (o : Int) (ho : -9223372036854775808 ≤ o ∧ o ≤ 9223372036854775807) (x : Option Nat) (hx : atB o H.blks = x) :
    Calls Tryz.prog 69 #[.pointer (some ⟨p, 0, none⟩), .int .i64 o] w fun e w' => e = .returned (.int .i64 (ixV x)) ∧ w = w' := by
  have c1 := h.c1
  obtain ⟨A, c, rfl⟩ := own_sl h.ob
  have HO := Lib.hid h.ob
  obtain ⟨l, hL⟩ : ∃ l, H.blks = l := ⟨_, rfl⟩
  obtain ⟨n, hN⟩ : ∃ n, l.length = n := ⟨_, rfl⟩
  rw [hL] at HO hn hx c1
  rw [hN] at HO hn c1
  have HN := Lib.hid hN
  have HX := Lib.hid hx
  clear h hL hN hx
  go_enter Tryz.func69, Tryz.ntmps69
  go_wp2
  go_loopw [5] (fun i wr => ∃ j : Nat, i = .int .i64 (j : Int) ∧ j ≤ n ∧ atB o l = (atB o (l.drop j)).map (· + j) ∧ w = wr) (fun i _ => n - (intOf i).toNat)
  case atStart => exact ⟨0, rfl, Nat.zero_le _, by simp, rfl⟩
  case round =>
    obtain ⟨j, rfl, hj, hat, rfl⟩ := hrel
    by_cases hlt : j < n
    · obtain ⟨y, hy⟩ : ∃ y, l[j]? = some y := ⟨l[j]'(by rw [HN.out]; exact hlt), List.getElem?_eq_getElem _⟩
      obtain ⟨b, c', hV, hb, _, hnc, ⟨d0, _, _⟩, _⟩ := own_blk HO.out hy
      injection hV with hV1 _ hV3
      subst hV1 hV3
      have had := atB_drop o l j y hy hat
      have hji : (j : Int) < (n : Int) := by omega
      obtain ⟨yo, hyo⟩ : ∃ yo, y.off = yo := ⟨_, rfl⟩
      rw [hyo] at d0 had
      clear hy hat hyo
      by_cases hq : (yo : Int) = o
      · have e : x = some j := by rw [← HX.out]; exact had.1 hq
        subst e
        clear had HX
        subst hq
        go_wp2
        go_ret
        exact ⟨rfl, rfl⟩
      · have hq2 : ((yo : Int) == o) = false := by rw [beq_eq_false_iff_ne]; exact hq
        have HA := Lib.hid (had.2 hq)
        clear had hq
        go_wp2
        go_roundw
        case rel => exact ⟨j + 1, by go_num, by omega, HA.out, trivial⟩
        case measure => simp only [intOf]; omega
    · have e : x = none := by
        rw [← HX.out, hat, List.drop_of_length_le (by rw [HN.out]; omega)]
        rfl
      subst e
      clear hat HX
      go_wp2
      go_ret
      exact ⟨rfl, rfl⟩

set_option maxHeartbeats 1000000 in
theorem husd_any (h : Hm F w p H Vb Vd gl cs) (hn : H.blks.length ≤ 100000) (o : Int) (ho : -9223372036854775808 ≤ o ∧ o ≤ 9223372036854775807) (x : Option Nat) (hx : usedB H.blks o = x) :
    Calls Tryz.prog 41 #[.pointer (some ⟨p, 0, none⟩), .int .i64 o] w fun e w' => e = .returned (.int .i64 (ixV x)) ∧ w = w' := by
  cases ha : atB o H.blks with
  | none =>
    obtain rfl : none = x := by rw [← hx]; unfold usedB; rw [ha]
    have HA := Lib.hid (hat_any h hn o ho _ ha)
    dsimp only [ixV] at HA
    clear ha hx
    go_enter Tryz.func41, Tryz.ntmps41
    go_wp2_with fail
    refine HA.out.mono ?_
    rintro e w' ⟨rfl, rfl⟩
    go_wp2
    go_ret
    exact ⟨rfl, rfl⟩
  | some i =>
    have HA := Lib.hid (hat_any h hn o ho _ ha)
    dsimp only [ixV] at HA
    obtain ⟨hi, _⟩ := atB_at ha
    have hget := bkAt_get hi
    obtain ⟨b, c, rfl, hb, _, hnc, ⟨_, _, d2⟩, _⟩ := own_blk h.ob hget
    have c1 := h.c1
    have hxx : (if (bkAt H.blks i).used = true then some i else none) = x := by rw [← hx]; unfold usedB; rw [ha]
    obtain ⟨u, hu⟩ : ∃ u, (bkAt H.blks i).used = u := ⟨_, rfl⟩
    rw [hu] at d2 hxx
    have hii : (i : Int) < (H.blks.length : Int) := by omega
    obtain ⟨n, hN⟩ : ∃ n, H.blks.length = n := ⟨_, rfl⟩
    rw [hN] at *
    clear hx ha hget hu h hN
    cases u with
    | true =>
      obtain rfl : some i = x := by rw [← hxx]; simp
      clear hxx
      go_enter Tryz.func41, Tryz.ntmps41
      go_wp2_with fail
      refine HA.out.mono ?_
      rintro e w' ⟨rfl, rfl⟩
      go_wp2
      go_ret
      exact ⟨rfl, rfl⟩
    | false =>
      obtain rfl : none = x := by rw [← hxx]; simp
      clear hxx
      go_enter Tryz.func41, Tryz.ntmps41
      go_wp2_with fail
      refine HA.out.mono ?_
      rintro e w' ⟨rfl, rfl⟩
      go_wp2
      go_ret
      exact ⟨rfl, rfl⟩
end
end Go.Proofs.YtbemaoncakcnjaaGreat

/- The contracts of the document's heap: in, out. -/
namespace Go.Proofs.YtbemaoncakcnjaaGreat
open Go.RowKit

section
variable {F : Nat → Prop} {w w' : World} {p gl : Nat} {H : Hp} {Vb Vd : Value} {cs : List Value}
/-- One list is another. -/
theorem Hm.lset (h : Hm F w p H Vb Vd gl cs) {d : Nat} (hd : d < 22) (v : Value) (l : List Nat) (hown : w.ownsRow 0 3 1 v l.length (l.map iV)) :
    Hm (fun k => F k ∨ v.ownBlock = some k) (w.setCell ⟨gl, d, none⟩ v) p { H with lists := setL H.lists d l } Vb Vd gl (cs.set d v) := by
  have hk : ∀ k, k ≠ gl → (w.setCell ⟨gl, d, none⟩ v).heap[k]? = w.heap[k]? := fun k hk => Below.heap_setCell w ⟨gl, d, none⟩ v k hk
  have hpg : p ≠ gl := fun e => by
    have h1 := h.obj
    rw [e, h.row] at h1
    injection h1 with h1
    injection h1 with _ h1 _
    exact absurd h1 (by decide)
  refine ⟨(hk p hpg).trans h.obj, own_keep h.ob (fun k e => hk k (own_two h.ob h.row (by decide) k e)), own_keep h.od (fun k e => hk k (own_two h.od h.row (by decide) k e)), ?_, by rw [List.length_set]; exact h.len, fun e he => ?_, .inl h.fp, .inl h.fl, fun k e => .inl (h.fb k e), fun k e => .inl (h.fd k e), fun e u k he hu hk => ?_, h.sl⟩
  · have := heap_setCell_same w gl d _ _ v h.row
    rw [this]
    simp
  · by_cases hed : e = d
    · subst hed
      refine ⟨v, by rw [List.getElem?_set_self (by rw [h.len]; exact hd)], ?_⟩
      have e2 : setL H.lists e l e = l := by simp [setL]
      dsimp only
      rw [e2]
      exact own_keep hown (fun k e => hk k (own_two hown h.row (by decide) k e))
    · obtain ⟨u, h1, h2⟩ := h.at_ e he
      have e2 : setL H.lists d l e = H.lists e := by simp [setL, hed]
      refine ⟨u, by rw [List.getElem?_set_ne (fun h => hed h.symm)]; exact h1, ?_⟩
      dsimp only
      rw [e2]
      exact own_keep h2 (fun k e => hk k (own_two h2 h.row (by decide) k e))
  · by_cases hed : e = d
    · subst hed
      rw [List.getElem?_set_self (by rw [h.len]; exact hd)] at hu
      injection hu with hu
      subst hu
      exact .inr hk
    · rw [List.getElem?_set_ne (fun h => hed h.symm)] at hu
      exact .inl (h.fi e u k he hu hk)
theorem Hm.lcell (h : Hm F w p H Vb Vd gl cs) {d : Nat} (hd : d < 22) : ∃ A c, w.cell? ⟨gl, d, none⟩ = some (.slice A (H.lists d).length c) ∧ w.ownsRow 0 3 1 (.slice A (H.lists d).length c) (H.lists d).length ((H.lists d).map iV) := by
  obtain ⟨v, h1, h2⟩ := h.at_ d hd
  obtain ⟨A, c, rfl⟩ := own_sl h2
  refine ⟨A, c, ?_, h2⟩
  rw [cell_of_row w gl d _ _ (0, 0) h.row]
  simpa using h1
theorem own_rw {A : Option Addr} {c : Nat} {l : List Nat} (h : w.ownsRow 0 3 1 (.slice A l.length c) l.length (l.map iV)) : Rw (fun _ => False) w A l ∧ (A = none → c = 0) := rw_own h rfl (fun _ _ => id)
theorem rw_src {S : Nat → Prop} {A : Option Addr} {c : Nat} {l : List Nat} (h : Rw S w A l) (hA : A = none → c = 0) : Src w A l.length c (l.map iV) := by
  refine ⟨fun e => ?_, fun ad e => by subst e; exact rw_cells h⟩
  subst e
  have h0 : l.length = 0 := by
    rcases Nat.eq_zero_or_pos l.length with h0 | h0
    · exact h0
    · obtain ⟨_, _, e, _⟩ := h h0
      cases e
  obtain rfl : l = [] := List.eq_nil_of_length_eq_zero h0
  exact ⟨rfl, hA rfl, rfl⟩
set_option maxHeartbeats 1000000 in
theorem hin_any (h : Hm F w p H Vb Vd gl cs) (i : Nat) (hi : i < H.blks.length) (hs : isSz ((bkAt H.blks i).size : Int) = true) (hll : ∀ d, d < 22 → (H.lists d).length ≤ 100000) :
    Calls Tryz.prog 102 #[.pointer (some ⟨p, 0, none⟩), .int .i64 (i : Int)] w fun e w' => e = .returned (.tuple #[]) ∧ HT F w p (H.in_ i) w' := by
  obtain ⟨cl, hcl, hcl22⟩ := class_nat hs
  have hget := bkAt_get hi
  have hIN : H.in_ i = { H with lists := setL H.lists cl ((bkAt H.blks i).off :: H.lists cl) } := by
    unfold Hp.in_ clsB
    rw [hcl, Int.toNat_natCast]
  rw [hIN]
  obtain ⟨b, c, rfl, hb, _, hnc, ⟨d0, d1, _⟩, _⟩ := own_blk h.ob hget
  have hss := (isSz_iff _).1 hs
  have c1 := h.c1
  have hii : (i : Int) < (H.blks.length : Int) := by omega
  have hplt := h.lt
  obtain ⟨xo, hxo⟩ : ∃ xo, (bkAt H.blks i).off = xo := ⟨_, rfl⟩
  obtain ⟨xs, hxs⟩ : ∃ xs, (bkAt H.blks i).size = xs := ⟨_, rfl⟩
  rw [hxo] at d0 ⊢
  rw [hxs] at d1 hcl hss
  obtain ⟨wd, hwd⟩ : ∃ wd, w.drew = wd := ⟨_, rfl⟩
  have hd := h.below (w' := wd) (by rw [← hwd]; exact (Below.refl _ _).drew)
  have hsz : w.heap.size = wd.heap.size := by rw [← hwd]; rfl
  have hbd : Below w.heap.size w wd := by rw [← hwd]; exact (Below.refl _ _).drew
  obtain ⟨A, cc, hcell, hlo⟩ := hd.lcell hcl22
  have hrw := own_rw hlo
  have hgl := heap_lt hd.row
  have hci : (cl : Int) < 22 := by omega
  have HL := Lib.hid (hll cl hcl22)
  have HD := Lib.hid hd
  have HWD := Lib.hid hwd
  have HRW := Lib.hid hrw
  have HBD := Lib.hid hbd
  have HCL := Lib.hid (fun W => rclass_any W (xs : Int) (by omega) (cl : Int) hcl)
  have HSZ := Lib.hid hsz
  have e0 := (World.cell?_of_block (w := w) (w' := wd) (a := ⟨b, i * 3, none⟩) (by rw [← hwd]; rfl)).trans d0
  have e1 := (World.cell?_of_block (w := w) (w' := wd) (a := ⟨p, 1, none⟩) (by rw [← hwd]; rfl)).trans c1
  have e3 := hd.c3
  have hbd' : b < wd.heap.size := by omega
  have hpd' : p < wd.heap.size := by omega
  obtain ⟨n, hN⟩ : ∃ n, H.blks.length = n := ⟨_, rfl⟩
  rw [hN] at c1 e1 hii hnc
  obtain ⟨LL, hLL⟩ : ∃ LL, H.lists cl = LL := ⟨_, rfl⟩
  rw [hLL] at HL HRW hcell
  have HLL := Lib.hid hLL
  clear hxo hxs hwd hd hbd hrw hget hs hcl hIN hlo h hsz hN hll
  go_enter Tryz.func102, Tryz.ntmps102
  go_wp2_with fail
  refine (HCL.out _).mono ?_
  rintro e w2 ⟨rfl, rfl⟩
  clear HCL d0 d1 c1
  go_wp2_with fail
  refine wp_region_plan wd.heap.size (.one [0, 1, 2, 3, 4, 5, 6, 7, 8, 9, 10, 11, 12, 14, 15, 16, 17, 18, 19, 20] 13 (.one [] 21 (.fin [22]))) [23] (by kernel_rfl) (by kernel_rfl) (by kernel_rfl) (fun _ _ _ _ _ h => h) ?_
  rw [HWD.out]
  have t0 : ∀ z : LaterB wd.heap.size wd, z.val.cell? ⟨b, i * 3, none⟩ = some (.int .i64 (xo : Int)) := fun z => (z.ext.cell (p := ⟨b, i * 3, none⟩) hbd').trans e0
  have t1 : ∀ z : LaterB wd.heap.size wd, z.val.cell? ⟨p, 1, none⟩ = some (.slice (some ⟨b, 0, none⟩) n c) := fun z => (z.ext.cell (p := ⟨p, 1, none⟩) hpd').trans e1
  have t3 : ∀ z : LaterB wd.heap.size wd, z.val.cell? ⟨p, 3, none⟩ = some (.slice (some ⟨gl, 0, none⟩) 22 22) := fun z => (z.ext.cell (p := ⟨p, 3, none⟩) hpd').trans e3
  have t4 : ∀ z : LaterB wd.heap.size wd, z.val.cell? ⟨gl, cl, none⟩ = some (.slice A LL.length cc) := fun z => (z.ext.cell (p := ⟨gl, cl, none⟩) hgl).trans hcell
  refine plan_one (l := ?seg1) ?hseg1 ?_
  case hseg1 => simp only [pick, List.getElem?_toArray, List.getElem?_cons_succ, List.getElem?_cons_zero]; rfl
  repeat (go_big_quiet_step (fail))
  refine wpQuiet_nil ?_
  clear t0 t1 t3 t4
  obtain ⟨w6, hw6⟩ : ∃ w6, wd.alloc (.cells #[.int .i64 (xo : Int)] 3) = w6 := ⟨_, rfl⟩
  have b6 : Below wd.heap.size wd w6 := by rw [← hw6]; exact (Below.refl _ _).alloc (Nat.le_refl _) _
  have own6 : w6.ownsRow wd.heap.size 3 1 (.slice (some ⟨wd.heap.size, 0, none⟩) 1 1) 1 ([xo].map iV) := by rw [← hw6]; exact own_one wd xo
  refine tail_val2 (some 27) (w1 := w6) (v := .slice (some ⟨wd.heap.size, 0, none⟩) 1 1) rfl rfl rfl (by rw [← hw6]; exact bslice_run rfl rfl (run_one_int wd (xo : Int))) b6 ⟨wd.heap.size, Nat.le_refl _, ?_⟩
  have OWN6 := Lib.hid own6
  have HB6 := Lib.hid b6
  have b6s := b6.size
  have HRW6 := Lib.hid (HRW.out.1.keep (w' := w6) (S' := fun _ => False) b6.size (fun k hk hn => ⟨b6.block k hk, hn⟩))
  have HCELL := Lib.hid hcell
  clear own6 b6 hw6 hcell HWD e0 e1 e3
  simp only [Act.put, List.setIfInBounds_toArray, List.set_cons_zero, List.set_cons_succ]
  refine plan_one (l := []) rfl ?_
  refine wpQuiet_nil ?_
  refine tail_app (some 35) (.tmp 27) (.tmp 34) 73 3 rfl rfl rfl rfl Tryz.underlying73 (.int .i64 0) 1 8 int_inf rfl (by decide) wd.heap.size (.slice (some ⟨wd.heap.size, 0, none⟩) 1 1) 1 ([xo].map iV) rfl OWN6.out (Nat.le_refl _) b6s A LL.length cc (LL.map iV) rfl (by simp) (rw_src HRW6.out HRW.out.2) (iv_one LL) (by have := HL.out; omega) (by omega) ?_
  intro x7 w7 own7 hb7 gr7
  have HB7 : Hid (Below wd.heap.size wd w7) := HB6.out.trans hb7
  have OWN7 : Hid (w7.ownsRow wd.heap.size 3 1 x7 (1 + LL.length) ((xo :: LL).map iV)) := own7
  refine ⟨wd.heap.size, Nat.le_refl _, ?_⟩
  clear own7 gr7 hb7
  obtain ⟨A7', c7', rfl⟩ := own_sl OWN7.out
  have HD7 := Lib.hid (HD.out.below HB7.out)
  have q3 : w7.cell? ⟨gl, cl, none⟩ = some (.slice A LL.length cc) := by
    have h2 := (HB7.out.cell (p := ⟨gl, cl, none⟩) hgl)
    rw [h2]; exact HCELL.out
  have f3 := frozen_of_row w7 gl cl _ _ HD7.out.row
  have hg7 := heap_lt HD7.out.row
  refine plan_fin (l := ?laP) (t := ?tlP) ?hlaP ?htlP ?_
  case hlaP => simp only [pick, List.getElem?_toArray, List.getElem?_cons_succ, List.getElem?_cons_zero]; rfl
  case htlP => simp only [pick, List.getElem?_toArray, List.getElem?_cons_succ, List.getElem?_cons_zero]; rfl
  simp only [Act.put, List.setIfInBounds_toArray, List.set_cons_zero, List.set_cons_succ]
  repeat (go_big_quiet_step (fail))
  refine wpQuiet_nil ?_
  go_wp2
  go_end0
  refine ⟨rfl, ?_⟩
  have hown := own_base OWN7.out (Nat.zero_le _)
  have e8 : (xo :: LL).length = 1 + LL.length := by rw [List.length_cons, Nat.add_comm]
  have h8 := HD7.out.lset hcl22 (.slice A7' (1 + LL.length) c7') (xo :: LL) (by rw [e8]; exact hown)
  rw [HLL.out]
  refine ⟨_, ⟨_, _, _, _, h8⟩, ?_, fun k hk => ?_⟩
  · exact ((Tch.of_below (S := F) (HBD.out.trans (by rw [HSZ.out]; exact HB7.out))).trans (Tch.set w7 ⟨gl, cl, none⟩ _ HD7.out.fl) (fun _ _ h => h))
  · exact hk.imp id (fun e => by have := (OWN7.out.lt k e).1; have := HSZ.out; omega)

set_option maxHeartbeats 2000000 in
theorem hout_any (h : Hm F w p H Vb Vd gl cs) (i : Nat) (hi : i < H.blks.length) (hs : isSz ((bkAt H.blks i).size : Int) = true) (hll : ∀ d, d < 22 → (H.lists d).length ≤ 100000) :
    Calls Tryz.prog 74 #[.pointer (some ⟨p, 0, none⟩), .int .i64 (i : Int)] w fun e w' => e = .returned (.tuple #[]) ∧ HT F w p (H.out i) w' := by
  obtain ⟨cl, hcl, hcl22⟩ := class_nat hs
  have hget := bkAt_get hi
  have hIN : H.out i = { H with lists := setL H.lists cl ((H.lists cl).filter fun o => o != (bkAt H.blks i).off) } := by
    unfold Hp.out clsB
    rw [hcl, Int.toNat_natCast]
  rw [hIN]
  obtain ⟨b, c, rfl, hb, _, hnc, ⟨d0, d1, _⟩, _⟩ := own_blk h.ob hget
  have hss := (isSz_iff _).1 hs
  have c1 := h.c1
  have c3 := h.c3
  have hii : (i : Int) < (H.blks.length : Int) := by omega
  have hplt := h.lt
  obtain ⟨xo, hxo⟩ : ∃ xo, (bkAt H.blks i).off = xo := ⟨_, rfl⟩
  obtain ⟨xs, hxs⟩ : ∃ xs, (bkAt H.blks i).size = xs := ⟨_, rfl⟩
  rw [hxo] at d0 ⊢
  rw [hxs] at d1 hcl hss
  obtain ⟨A, cc, hcell, hlo⟩ := h.lcell hcl22
  have hrw := own_rw hlo
  have hgl := heap_lt h.row
  have hci : (cl : Int) < 22 := by omega
  have HL := Lib.hid (hll cl hcl22)
  have HH := Lib.hid h
  have HCL := Lib.hid (fun W => rclass_any W (xs : Int) (by omega) (cl : Int) hcl)
  obtain ⟨n, hN⟩ : ∃ n, H.blks.length = n := ⟨_, rfl⟩
  rw [hN] at c1 hii hnc
  obtain ⟨LL, hLL⟩ : ∃ LL, H.lists cl = LL := ⟨_, rfl⟩
  obtain ⟨M, hM⟩ : ∃ M, LL.length = M := ⟨_, rfl⟩
  rw [hLL] at HL hrw hcell
  rw [hM] at HL hcell
  have HLL := Lib.hid hLL
  have HM := Lib.hid hM
  have HRW := Lib.hid hrw
  obtain ⟨B5, hB5⟩ : ∃ B5, w.heap.size = B5 := ⟨_, rfl⟩
  have HB5 := Lib.hid hB5
  have HCS : Hid (∀ W, Below B5 w W → W.cell? ⟨b, i * 3, none⟩ = some (.int .i64 (xo : Int)) ∧ W.cell? ⟨p, 1, none⟩ = some (.slice (some ⟨b, 0, none⟩) n c) ∧ W.cell? ⟨p, 3, none⟩ = some (.slice (some ⟨gl, 0, none⟩) 22 22) ∧ W.cell? ⟨gl, cl, none⟩ = some (.slice A M cc)) := fun W h' => ⟨(h'.cell (p := ⟨b, _, none⟩) (by rw [← hB5]; exact hb)).trans d0, (h'.cell (p := ⟨p, _, none⟩) (by rw [← hB5]; exact hplt)).trans c1, (h'.cell (p := ⟨p, _, none⟩) (by rw [← hB5]; exact hplt)).trans c3, (h'.cell (p := ⟨gl, _, none⟩) (by rw [← hB5]; exact hgl)).trans hcell⟩
  clear hxo hxs hrw hget hs hcl hIN hlo h hN hll hLL hM hB5 hcell
  go_enter Tryz.func74, Tryz.ntmps74
  go_wp2_with fail
  refine (HCL.out _).mono ?_
  rintro e w2 ⟨rfl, rfl⟩
  clear HCL d0 d1 c1 c3
  go_wp2
  go_loopw [5, 6] (fun q i wr => ∃ (m r : Nat) (G : List Nat), i = .int .i64 (m : Int) ∧ m ≤ M ∧ G.length = r ∧ G = (LL.take m).filter (fun o => o != xo) ∧ wr.ownsRow B5 3 1 q r (G.map iV) ∧ Below B5 w wr) (fun _ i _ => M - (intOf i).toNat)
  case atStart => exact ⟨0, 0, [], rfl, Nat.zero_le _, rfl, rfl, World.ownsRow_nil _ _ _ _, Below.refl _ _⟩
  case round =>
    obtain ⟨m, r, G, rfl, hm, hGr, hG, hown, hb9⟩ := hrel
    obtain ⟨A9, c9, rfl⟩ := own_sl hown
    have hBw : B5 ≤ wr.heap.size := by have := hb9.size; have := HB5.out; omega
    obtain ⟨_, k1, k3, k4⟩ := HCS.out wr hb9
    have hM100 := HL.out
    by_cases hlt : m < M
    · have hmi : (m : Int) < (M : Int) := by omega
      obtain ⟨y, hy⟩ : ∃ y, LL[m]? = some y := ⟨LL[m]'(by rw [HM.out]; exact hlt), List.getElem?_eq_getElem _⟩
      obtain ⟨bd, od, rfl, hbd, _, hcd⟩ := HRW.out.1 (by rw [HM.out]; omega)
      have hyc := hcd m y hy
      have hrM : r ≤ M := by rw [← hGr, hG]; exact Nat.le_trans (List.length_filter_le _ _) (by rw [List.length_take]; omega)
      obtain ⟨wd, hwd⟩ : ∃ wd, wr.drew = wd := ⟨_, rfl⟩
      have hbd1 : Below B5 w wd := by rw [← hwd]; exact hb9.drew
      have ownd := own_below' hown (w' := wd) (by rw [← hwd]; exact (Below.refl _ _).drew)
      have hwdB : B5 ≤ wd.heap.size := by rw [← hwd]; exact hBw
      have HYC : Hid (∀ W, Below B5 w W → W.cell? ⟨bd, od + m, none⟩ = some (.int .i64 (y : Int))) := fun W h' => (h'.cell (p := ⟨bd, od + m, none⟩) (by rw [← HB5.out]; exact hbd)).trans hyc
      have hfs : (LL.take (m + 1)).filter (fun o => o != xo) = if y = xo then G else G ++ [y] := by
        rw [List.take_add_one, hy, List.filter_append, hG]
        by_cases e : y = xo
        · simp [e]
        · simp [e]
      have HFS := Lib.hid hfs
      have HGR := Lib.hid hGr
      have HWD := Lib.hid hwd
      have HBD := Lib.hid hbd1
      have OWND := Lib.hid ownd
      have HALT : Hid (∀ k, (Value.slice A9 r c9).ownBlock = some k → B5 ≤ k ∧ k < wd.heap.size) := ownd.lt
      clear hy hbd hcd hyc hfs hGr hG hwd hbd1 ownd hown hb9
      by_cases hyx : y = xo
      · have hq1 : ((y : Int) != (xo : Int)) = false := by rw [bne_eq_false_iff_eq]; omega
        go_wp2_with fail
        refine wp_region_tail wd.heap.size [] [0, 1, 2, 3, 4, 5, 6, 7, 8, 9, 10, 11, 12, 13, 14, 15, 16, 17, 18] [] (by kernel_rfl) (by kernel_rfl) (by kernel_rfl) (fun _ _ _ _ _ h => h) ?_
        rw [HWD.out]
        have t0 : ∀ z : LaterB wd.heap.size wd, z.val.cell? ⟨bd, od + m, none⟩ = some (.int .i64 (y : Int)) := fun z => HYC.out z.val (HBD.out.trans (z.ext.mono hwdB))
        have t1 : ∀ z : LaterB wd.heap.size wd, z.val.cell? ⟨gl, cl, none⟩ = some (.slice (some ⟨bd, od, none⟩) M cc) := fun z => (HCS.out z.val (HBD.out.trans (z.ext.mono hwdB))).2.2.2
        have t2 : ∀ z : LaterB wd.heap.size wd, z.val.cell? ⟨b, i * 3, none⟩ = some (.int .i64 (xo : Int)) := fun z => (HCS.out z.val (HBD.out.trans (z.ext.mono hwdB))).1
        have t3 : ∀ z : LaterB wd.heap.size wd, z.val.cell? ⟨p, 1, none⟩ = some (.slice (some ⟨b, 0, none⟩) n c) := fun z => (HCS.out z.val (HBD.out.trans (z.ext.mono hwdB))).2.1
        have t4 : ∀ z : LaterB wd.heap.size wd, z.val.cell? ⟨p, 3, none⟩ = some (.slice (some ⟨gl, 0, none⟩) 22 22) := fun z => (HCS.out z.val (HBD.out.trans (z.ext.mono hwdB))).2.2.1
        refine tail_last (l := ?laF1) (t := []) ?hlaF1 ?htlF1 ?_
        case hlaF1 => simp only [pick, List.getElem?_toArray, List.getElem?_cons_succ, List.getElem?_cons_zero]; rfl
        case htlF1 => rfl
        repeat (go_big_quiet_step (fail))
        refine wpQuiet_nil ?_
        clear t0 t1 t2 t3 t4 k1 k3 k4
        go_wp2
        go_roundw
        case rel => exact ⟨m + 1, r, G, by go_num, by omega, HGR.out, by rw [HFS.out, if_pos hyx], OWND.out, HBD.out⟩
        case measure => simp only [intOf]; omega
      · have hq1 : ((y : Int) != (xo : Int)) = true := by rw [bne_iff_ne]; omega
        go_wp2_with fail
        refine wp_region_tail wd.heap.size [] [0, 1, 2, 3, 4, 5, 6, 7, 8, 9, 10, 11, 12, 13, 14, 15, 16, 17, 18] [] (by kernel_rfl) (by kernel_rfl) (by kernel_rfl) (fun _ _ _ _ _ h => h) ?_
        rw [HWD.out]
        have t0 : ∀ z : LaterB wd.heap.size wd, z.val.cell? ⟨bd, od + m, none⟩ = some (.int .i64 (y : Int)) := fun z => HYC.out z.val (HBD.out.trans (z.ext.mono hwdB))
        have t1 : ∀ z : LaterB wd.heap.size wd, z.val.cell? ⟨gl, cl, none⟩ = some (.slice (some ⟨bd, od, none⟩) M cc) := fun z => (HCS.out z.val (HBD.out.trans (z.ext.mono hwdB))).2.2.2
        have t2 : ∀ z : LaterB wd.heap.size wd, z.val.cell? ⟨b, i * 3, none⟩ = some (.int .i64 (xo : Int)) := fun z => (HCS.out z.val (HBD.out.trans (z.ext.mono hwdB))).1
        have t3 : ∀ z : LaterB wd.heap.size wd, z.val.cell? ⟨p, 1, none⟩ = some (.slice (some ⟨b, 0, none⟩) n c) := fun z => (HCS.out z.val (HBD.out.trans (z.ext.mono hwdB))).2.1
        have t4 : ∀ z : LaterB wd.heap.size wd, z.val.cell? ⟨p, 3, none⟩ = some (.slice (some ⟨gl, 0, none⟩) 22 22) := fun z => (HCS.out z.val (HBD.out.trans (z.ext.mono hwdB))).2.2.1
        refine tail_last (l := ?laF2) (t := []) ?hlaF2 ?htlF2 ?_
        case hlaF2 => simp only [pick, List.getElem?_toArray, List.getElem?_cons_succ, List.getElem?_cons_zero]; rfl
        case htlF2 => rfl
        repeat (go_big_quiet_step (fail))
        refine wpQuiet_nil ?_
        clear t0 t1 t2 t3 t4 k1 k3 k4
        have HY0 := HYC.out wd HBD.out
        obtain ⟨_, k1, k3, k4⟩ := HCS.out wd HBD.out
        obtain ⟨w6, hw6⟩ : ∃ w6, wd.alloc (.cells #[.int .i64 (y : Int)] 3) = w6 := ⟨_, rfl⟩
        have b6 : Below wd.heap.size wd w6 := by rw [← hw6]; exact (Below.refl _ _).alloc (Nat.le_refl _) _
        have n6 : w6.heap[wd.heap.size]? = some (.cells #[.int .i64 (y : Int)] 3 (0, 0)) := by rw [← hw6]; exact heap_alloc_new wd _
        have own6 := own_below' OWND.out b6
        have hr6 : Rw (fun _ => False) w6 (some ⟨wd.heap.size, 0, none⟩) [y] := fun _ => ⟨wd.heap.size, 0, rfl, heap_lt n6, id, fun j x hx => by
          rw [Nat.zero_add, cell_of_row w6 _ j _ _ (0, 0) n6]
          match j, hx with
          | 0, hx => simp at hx; subst hx; rfl⟩
        have h6B : B5 ≤ w6.heap.size := Nat.le_trans hwdB b6.size
        have OWN6 := Lib.hid own6
        have HR6 := Lib.hid hr6
        have HB6 := Lib.hid (HBD.out.trans (b6.mono hwdB))
        have HW6 := Lib.hid hw6
        clear own6 hr6 b6 n6 hw6
        go_wp2_with (first
          | (rw [HW6.out])
          | (at_builtin; go_must (refine append_ints rfl _ _ rfl B5 _ r G rfl OWN6.out (fun _ => False) (some ⟨wd.heap.size, 0, none⟩) 1 [y] rfl HR6.out (fun h => by cases h) (by rw [List.length_singleton]; omega) h6B ?_); intro x7 w7 own7 gr7;
             have HB7 : Hid (Below B5 w w7) := HB6.out.grown gr7 h6B (fun k hk => (HALT.out k hk).1); have OWN7 : Hid (w7.ownsRow B5 3 1 x7 (r + 1) ((G ++ [y]).map iV)) := own7; clear own7 gr7)
          | fail)
        go_roundw
        case rel => exact ⟨m + 1, r + 1, G ++ [y], by go_num, by omega, by rw [List.length_append, List.length_singleton, HGR.out], by rw [HFS.out, if_neg hyx], OWN7.out, HB7.out⟩
        case measure => simp only [intOf]; omega
    · obtain rfl : M = m := by omega
      rw [List.take_of_length_le (Nat.le_of_eq HM.out)] at hG
      have h9 := HH.out.below (w' := wr) (by rw [HB5.out]; exact hb9)
      have f3 := frozen_of_row wr gl cl _ _ h9.row
      have hset := h9.lset hcl22 (.slice A9 r c9) G (by rw [hGr]; exact own_base hown (Nat.zero_le _))
      have hto : HT F w p { H with lists := setL H.lists cl G } (wr.setCell ⟨gl, cl, none⟩ (.slice A9 r c9)) := by
        refine ⟨_, ⟨_, _, _, _, hset⟩, ?_, fun k hk => ?_⟩
        · exact (Tch.of_below (S := F) (by rw [HB5.out]; exact hb9)).trans (Tch.set wr ⟨gl, cl, none⟩ _ h9.fl) (fun _ _ h => h)
        · exact hk.imp id (fun e => by have := (hown.lt k e).1; have := HB5.out; omega)
      rw [hG] at hto
      have HTO := Lib.hid hto
      clear hto hset h9 hG hGr hown hb9
      go_wp2
      go_end0
      exact ⟨rfl, by rw [HLL.out]; exact HTO.out⟩
end
end Go.Proofs.YtbemaoncakcnjaaGreat

/- The contracts of the document's heap: drop, put. -/
namespace Go.Proofs.YtbemaoncakcnjaaGreat
open Go.RowKit

theorem sls_inf : (Tryz.prog.info? 23).map (fun i => (i.zero, i.size, i.bytes)) = some (some (.slice none 0 0), 1, 24) := by kernel_rfl
theorem run_none_b (w : World) : (Instr.buildSlice 28 0 #[]).run Tryz.prog w = .ok (.slice (some ⟨w.heap.size, 0, none⟩) 0 0) (w.alloc (.cells #[] 51)) := by
  simp [go_sem]
theorem run_none_s (w : World) : (Instr.buildSlice 29 0 #[]).run Tryz.prog w = .ok (.slice (some ⟨w.heap.size, 0, none⟩) 0 0) (w.alloc (.cells #[] 23)) := by
  simp [go_sem]
theorem flatK_take : ∀ (l : List Bk) (i : Nat), flatK (l.take i) = (flatK l).take (i * 3)
  | [], i => by simp [flatK]
  | x :: r, 0 => by simp [flatK]
  | x :: r, i + 1 => by
    have e : (i + 1) * 3 = i * 3 + 1 + 1 + 1 := by omega
    rw [e]
    simp [flatK, flatK_take r i]
theorem flatK_drop : ∀ (l : List Bk) (i : Nat), flatK (l.drop i) = (flatK l).drop (i * 3)
  | [], i => by simp [flatK]
  | x :: r, 0 => by simp
  | x :: r, i + 1 => by
    have e : (i + 1) * 3 = i * 3 + 1 + 1 + 1 := by omega
    rw [e]
    simp [flatK, flatK_drop r i]
theorem flatK_one (l : List Bk) : ∀ u ∈ flatK l, u.oneCell' = true := by
  induction l with
  | nil => intro u hu; cases hu
  | cons x r ih =>
    intro u hu
    simp only [flatK, List.mem_cons] at hu
    rcases hu with rfl | rfl | rfl | hu
    · rfl
    · rfl
    · rfl
    · exact ih u hu
theorem sl_one {l : List Dt} (h : ∀ d ∈ l, ∃ A n c, d.1 = Value.slice A n c) : ∀ u ∈ l.map Prod.fst, u.oneCell' = true := by
  intro u hu
  obtain ⟨d, hd, rfl⟩ := List.mem_map.1 hu
  obtain ⟨A, n, c, e⟩ := h d hd
  rw [e]
  rfl
theorem add_at (b k j : Nat) : (⟨b, k, none⟩ : Addr).add j = ⟨b, k + j, none⟩ := by unfold Addr.add; split <;> simp_all
/-- A part of a row. -/
theorem own_part {w : World} {base n c size b : Nat} {t : TypeId} {xs : List Value} (h : w.ownsRow base t size (.slice (some ⟨b, 0, none⟩) n c) n xs) (k m : Nat) (hkm : k + m ≤ n) (A : Addr) (hA : m = 0 ∨ A = ⟨b, k * size, none⟩) : Src w (some A) m c ((xs.drop (k * size)).take (m * size)) := by
  refine ⟨fun e => (by cases e), fun ad e j u hu => ?_⟩
  injection e with e
  subst e
  rcases hA with rfl | rfl
  · simp at hu
  · rw [add_at]
    have hlen : j < m * size := by
      rcases Nat.lt_or_ge j (m * size) with h1 | h1
      · exact h1
      · rw [List.getElem?_eq_none (Nat.le_trans (List.length_take_le _ _) h1)] at hu; cases hu
    rw [List.getElem?_take, if_pos hlen, List.getElem?_drop] at hu
    have h2 : k * size + m * size ≤ n * size := by rw [← Nat.add_mul]; exact Nat.mul_le_mul_right _ hkm
    rw [h.cellAt _ (by omega)]
    exact hu
theorem Src.cap {w : World} {A : Addr} {m c c' : Nat} {xs : List Value} (h : Src w (some A) m c xs) : Src w (some A) m c' xs := ⟨fun e => (by cases e), h.2⟩

section
variable {F : Nat → Prop} {w w' : World} {p gl : Nat} {H : Hp} {Vb Vd : Value} {cs : List Value}
theorem set_p (w : World) (p i : Nat) (v : Value) : ∀ k, k ≠ p → (w.setCell ⟨p, i, none⟩ v).heap[k]? = w.heap[k]? := fun k hk => Below.heap_setCell w ⟨p, i, none⟩ v k hk
theorem Hm.p_gl (h : Hm F w p H Vb Vd gl cs) : gl ≠ p := fun e => by
  have h1 := h.obj
  rw [← e, h.row] at h1
  injection h1 with h1
  injection h1 with _ h1 _
  exact absurd h1 (by decide)
/-- Other blocks. -/
theorem Hm.bset (h : Hm F w p H Vb Vd gl cs) (V : Value) (l : List Bk) (hown : w.ownsRow 0 51 3 V l.length (flatK l)) :
    Hm (fun k => F k ∨ V.ownBlock = some k) (w.setCell ⟨p, 1, none⟩ V) p { H with blks := l } V Vd gl cs := by
  have hk := set_p w p 1 V
  refine ⟨?_, own_keep hown (fun k e => hk k (own_two hown h.obj (by decide) k e)), own_keep h.od (fun k e => hk k (own_two h.od h.obj (by decide) k e)), (hk gl h.p_gl).trans h.row, h.len, fun d hd => ?_, .inl h.fp, .inl h.fl, fun k e => .inr e, fun k e => .inl (h.fd k e), fun d v k hd h1 e => .inl (h.fi d v k hd h1 e), h.sl⟩
  · have := heap_setCell_same w p 1 _ _ V h.obj
    rw [this]
    rfl
  · obtain ⟨v, h1, h2⟩ := h.at_ d hd
    exact ⟨v, h1, own_keep h2 (fun k e => hk k (own_two h2 h.obj (by decide) k e))⟩
/-- Other slices. -/
theorem Hm.dset (h : Hm F w p H Vb Vd gl cs) (V : Value) (l : List Dt) (hown : w.ownsRow 0 23 1 V l.length (l.map Prod.fst)) (hsl : ∀ d ∈ l, ∃ A n c, d.1 = Value.slice A n c) :
    Hm (fun k => F k ∨ V.ownBlock = some k) (w.setCell ⟨p, 2, none⟩ V) p { H with ds := l } Vb V gl cs := by
  have hk := set_p w p 2 V
  refine ⟨?_, own_keep h.ob (fun k e => hk k (own_two h.ob h.obj (by decide) k e)), own_keep hown (fun k e => hk k (own_two hown h.obj (by decide) k e)), (hk gl h.p_gl).trans h.row, h.len, fun d hd => ?_, .inl h.fp, .inl h.fl, fun k e => .inl (h.fb k e), fun k e => .inr e, fun d v k hd h1 e => .inl (h.fi d v k hd h1 e), hsl⟩
  · have := heap_setCell_same w p 2 _ _ V h.obj
    rw [this]
    rfl
  · obtain ⟨v, h1, h2⟩ := h.at_ d hd
    exact ⟨v, h1, own_keep h2 (fun k e => hk k (own_two h2 h.obj (by decide) k e))⟩
theorem own_nn {n size : Nat} {t : TypeId} {V : Value} {xs : List Value} (h : w.ownsRow 0 t size V n xs) (hn : 0 < n) : ∃ b c, V = .slice (some ⟨b, 0, none⟩) n c ∧ b < w.heap.size ∧ n ≤ c ∧ c ≤ maxLen := by
  rcases h.2 with ⟨_, h0⟩ | ⟨b, c, cur, rfl, _, hh, hnc, hm, _⟩
  · omega
  · exact ⟨b, c, rfl, heap_lt hh, hnc, hm⟩

set_option maxHeartbeats 1000000 in
theorem hdrop_any (h : Hm F w p H Vb Vd gl cs) (i : Nat) (hi : i < H.blks.length) (hn : H.blks.length ≤ 100000) (hdl : H.ds.length = H.blks.length) :
    Calls Tryz.prog 101 #[.pointer (some ⟨p, 0, none⟩), .int .i64 (i : Int)] w fun e w' => e = .returned (.tuple #[]) ∧ HT F w p (H.drop i) w' := by
  obtain ⟨b1, c1, rfl, hb1, hnc1, hm1⟩ := own_nn h.ob (by omega)
  obtain ⟨b2, c2, rfl, hb2, hnc2, hm2⟩ := own_nn h.od (by omega)
  have q1 := h.c1
  have hplt := h.lt
  obtain ⟨n, hN⟩ : ∃ n, H.blks.length = n := ⟨_, rfl⟩
  have HO1 : Hid (w.ownsRow 0 51 3 (.slice (some ⟨b1, 0, none⟩) n c1) n (flatK H.blks)) := (show World.ownsRow _ _ _ _ _ _ _ by rw [← hN]; exact h.ob)
  have HH := Lib.hid h
  have HN := Lib.hid hN
  rw [hN] at q1 hi hn hnc1 hdl
  rw [hdl] at hnc2
  obtain ⟨wd, hwd⟩ : ∃ wd, w.drew = wd := ⟨_, rfl⟩
  have hbd : Below w.heap.size w wd := by rw [← hwd]; exact (Below.refl _ _).drew
  have hsz : w.heap.size = wd.heap.size := by rw [← hwd]; rfl
  have HBD := Lib.hid hbd
  have HSZ := Lib.hid hsz
  have e1 := (World.cell?_of_block (w := w) (w' := wd) (a := ⟨p, 1, none⟩) (by rw [← hwd]; rfl)).trans q1
  have hpd : p < wd.heap.size := by omega
  have hbd1 : b1 < wd.heap.size := by omega
  have hpd1 : p < wd.heap.size := hpd
  have EE1 := Lib.hid e1
  have HDL2 : Hid (H.ds.length = n) := hdl
  have HWD1 := Lib.hid hwd
  have K1 := Lib.hid (own_below' HO1.out hbd)
  unfold maxLen at hm1 hm2
  have hin : (i : Int) < (n : Int) := by omega
  clear h hN hdl q1 hwd hbd hsz
  by_cases hc1 : c1 = i + 1
  · by_cases hc2 : c2 = i + 1
    · go_enter Tryz.func101, Tryz.ntmps101
      go_wp2_with fail
      refine wp_region_plan wd.heap.size (.one [0, 2, 3, 4, 5, 6, 7, 9, 10, 11, 12, 13, 14, 15] 1 (.one [] 8 (.one [] 16 (.fin [17, 18])))) [19] (by kernel_rfl) (by kernel_rfl) (by kernel_rfl) (fun _ _ _ _ _ h => h) ?_
      rw [HWD1.out]
      have t1 : ∀ z : LaterB wd.heap.size wd, z.val.cell? ⟨p, 1, none⟩ = some (.slice (some ⟨b1, 0, none⟩) n (i + 1)) := fun z => (z.ext.cell (p := ⟨p, 1, none⟩) hpd1).trans (by have := EE1.out; rw [hc1] at this; exact this)
      refine plan_one (l := ?seg1aa) ?hseg1aa ?_
      case hseg1aa => simp only [pick, List.getElem?_toArray, List.getElem?_cons_succ, List.getElem?_cons_zero]; rfl
      repeat (go_big_quiet_step (fail))
      refine wpQuiet_nil ?_
      clear t1
      obtain ⟨x1, hx1⟩ : ∃ x1, wd.alloc (.cells #[] 51) = x1 := ⟨_, rfl⟩
      have bx1 : Below wd.heap.size wd x1 := by rw [← hx1]; exact (Below.refl _ _).alloc (Nat.le_refl _) _
      have ownx1 : x1.ownsRow wd.heap.size 51 3 (.slice (some ⟨wd.heap.size, 0, none⟩) 0 0) 0 [] := by rw [← hx1]; exact World.ownsRow_lit wd _ 0 (Nat.le_refl _) (by unfold maxLen; omega) rfl
      refine tail_val2 (some 5) (w1 := x1) (v := .slice (some ⟨wd.heap.size, 0, none⟩) 0 0) rfl rfl rfl (by rw [← hx1]; exact bslice_run rfl rfl (run_none_b wd)) bx1 ⟨wd.heap.size, Nat.le_refl _, ?_⟩
      simp only [Act.put, List.setIfInBounds_toArray, List.set_cons_zero, List.set_cons_succ]
      refine plan_one (l := []) rfl ?_
      refine wpQuiet_nil ?_
      have s11 := ((own_part K1.out 0 i (by omega) ⟨b1, 0, none⟩ (.inr (by rw [Nat.zero_mul]))).cap (c' := (i + 1))).below bx1 (fun a e => by cases e; exact hbd1)
      refine tail_app (some 12) (.tmp 5) (.tmp 11) 28 51 rfl rfl rfl rfl Tryz.underlying28 (.agg #[.int .i64 0, .int .i64 0, .bool false]) 3 24 bk_inf rfl (by decide) wd.heap.size (.slice (some ⟨wd.heap.size, 0, none⟩) 0 0) 0 [] rfl ownx1 (Nat.le_refl _) bx1.size (some ⟨b1, 0, none⟩) i (i + 1) _ rfl ?l11aa s11 ?o11aa (by omega) (by omega) ?_
      case l11aa => have := K1.out.1; rw [List.length_take, List.length_drop]; omega
      case o11aa => exact fun u hu => (flatK_one H.blks) u (List.mem_of_mem_drop (List.mem_of_mem_take hu))
      intro y1 z1 owny1 bz1 _
      have bz21 := bx1.trans bz1
      refine ⟨wd.heap.size, Nat.le_refl _, ?_⟩
      simp only [Act.put, List.setIfInBounds_toArray, List.set_cons_zero, List.set_cons_succ]
      refine plan_one (l := []) rfl ?_
      refine wpQuiet_nil ?_
      have s21 := ((own_part K1.out (i + 1) (n - (i + 1)) (by omega) ⟨b1, 0, none⟩ (.inl (by omega))).cap (c' := 0)).below bz21 (fun a e => by cases e; exact hbd1)
      refine tail_app (some 20) (.tmp 12) (.tmp 19) 28 51 rfl rfl rfl rfl Tryz.underlying28 (.agg #[.int .i64 0, .int .i64 0, .bool false]) 3 24 bk_inf rfl (by decide) wd.heap.size y1 (0 + i) _ rfl owny1 (Nat.le_refl _) bz21.size (some ⟨b1, 0, none⟩) (n - (i + 1)) (0) _ rfl ?l21aa s21 ?o21aa (by omega) (by omega) ?_
      case l21aa => have := K1.out.1; rw [List.length_take, List.length_drop]; omega
      case o21aa => exact fun u hu => (flatK_one H.blks) u (List.mem_of_mem_drop (List.mem_of_mem_take hu))
      intro u1 v1 ownu1 bv1 _
      have bv21 := bz21.trans bv1
      rw [Nat.zero_add] at ownu1
      refine ⟨wd.heap.size, Nat.le_refl _, ?_⟩
      simp only [Act.put, List.setIfInBounds_toArray, List.set_cons_zero, List.set_cons_succ]
      obtain ⟨uA1, uc1, rfl⟩ := own_sl ownu1
      have e1u : i + (n - (i + 1)) = (H.blks.take i ++ H.blks.drop (i + 1)).length := by have := HN.out; rw [List.length_append, List.length_take, List.length_drop]; omega
      have hrow1 : v1.ownsRow wd.heap.size 51 3 (.slice uA1 (i + (n - (i + 1))) uc1) (H.blks.take i ++ H.blks.drop (i + 1)).length (flatK (H.blks.take i ++ H.blks.drop (i + 1))) := by
        rw [← e1u, flatK_append, flatK_take, flatK_drop]
        have e := ownu1
        rw [Nat.zero_mul, List.drop_zero, List.nil_append, List.take_of_length_le (i := (n - (i + 1)) * 3) (by have := K1.out.1; rw [List.length_drop]; omega)] at e
        exact e
      have HM1 := Lib.hid (HH.out.below (HBD.out.trans (by rw [HSZ.out]; exact bv21)))
      have hm2' := HM1.out.bset _ _ (own_base hrow1 (Nat.zero_le _))
      have HB1 := Lib.hid bv21
      have HL1 := Lib.hid hrow1.lt
      clear e1u s11 s21 owny1 ownx1 ownu1 bx1 bz1 bv1 hx1 hrow1 bz21 bv21
      have q1 := HM1.out.c1
      have f1 := HM1.out.thaw 1
      have hp1 := HM1.out.lt
      refine plan_fin (l := ?la1aa) (t := ?tl1aa) ?hla1aa ?htl1aa ?_
      case hla1aa => simp only [pick, List.getElem?_toArray, List.getElem?_cons_succ, List.getElem?_cons_zero]; rfl
      case htl1aa => simp only [pick, List.getElem?_toArray, List.getElem?_cons_succ, List.getElem?_cons_zero]; rfl
      repeat (go_big_quiet_step (fail))
      refine wpQuiet_nil ?_
      go_wp2_with fail
      clear q1 f1 hp1
      obtain ⟨v2, hv2⟩ : ∃ v2, v1.setCell ⟨p, 1, none⟩ (.slice uA1 (i + (n - (i + 1))) uc1) = v2 := ⟨_, rfl⟩
      rw [hv2] at hm2'
      obtain ⟨we, hwe⟩ : ∃ we, v2.drew = we := ⟨_, rfl⟩
      have hbe : Below v2.heap.size v2 we := by rw [← hwe]; exact (Below.refl _ _).drew
      have HME := Lib.hid (hm2'.below hbe)
      have htc : Tch F w we := ((Tch.of_below (S := F) (HBD.out.trans (by rw [HSZ.out]; exact HB1.out))).trans (by rw [← hv2]; exact Tch.set v1 ⟨p, 1, none⟩ _ HH.out.fp) (fun _ _ h => h)).trans (Tch.of_below (S := F) hbe) (fun _ _ h => h)
      have HTC := Lib.hid htc
      have HWD2 : Hid ((v1.setCell ⟨p, 1, none⟩ (.slice uA1 (i + (n - (i + 1))) uc1)).drew = we) := (show _ = _ by rw [hv2]; exact hwe)
      have hod : we.ownsRow 0 23 1 (.slice (some ⟨b2, 0, none⟩) n c2) n (H.ds.map Prod.fst) := by have e := HME.out.od; rw [← HDL2.out]; exact e
      have K2 := Lib.hid hod
      have EE2 : Hid (we.cell? ⟨p, 2, none⟩ = some (.slice (some ⟨b2, 0, none⟩) n c2)) := (show _ = _ by have e := HME.out.c2; rw [← HDL2.out]; exact e)
      have hpd2 := HME.out.lt
      have hbd2 : b2 < we.heap.size := own_lt hod rfl
      clear hm2' hv2 hwe hbe htc hod
      refine wp_region_plan we.heap.size (.one [0, 2, 3, 4, 5, 6, 7, 9, 10, 11, 12, 13, 14, 15] 1 (.one [] 8 (.one [] 16 (.fin [17, 18])))) [19] (by kernel_rfl) (by kernel_rfl) (by kernel_rfl) (fun _ _ _ _ _ h => h) ?_
      rw [HWD2.out]
      have t1 : ∀ z : LaterB we.heap.size we, z.val.cell? ⟨p, 2, none⟩ = some (.slice (some ⟨b2, 0, none⟩) n (i + 1)) := fun z => (z.ext.cell (p := ⟨p, 2, none⟩) hpd2).trans (by have := EE2.out; rw [hc2] at this; exact this)
      refine plan_one (l := ?seg2aa) ?hseg2aa ?_
      case hseg2aa => simp only [pick, List.getElem?_toArray, List.getElem?_cons_succ, List.getElem?_cons_zero]; rfl
      repeat (go_big_quiet_step (fail))
      refine wpQuiet_nil ?_
      clear t1
      obtain ⟨x2, hx2⟩ : ∃ x2, we.alloc (.cells #[] 23) = x2 := ⟨_, rfl⟩
      have bx2 : Below we.heap.size we x2 := by rw [← hx2]; exact (Below.refl _ _).alloc (Nat.le_refl _) _
      have ownx2 : x2.ownsRow we.heap.size 23 1 (.slice (some ⟨we.heap.size, 0, none⟩) 0 0) 0 [] := by rw [← hx2]; exact World.ownsRow_lit we _ 0 (Nat.le_refl _) (by unfold maxLen; omega) rfl
      refine tail_val2 (some 24) (w1 := x2) (v := .slice (some ⟨we.heap.size, 0, none⟩) 0 0) rfl rfl rfl (by rw [← hx2]; exact bslice_run rfl rfl (run_none_s we)) bx2 ⟨we.heap.size, Nat.le_refl _, ?_⟩
      simp only [Act.put, List.setIfInBounds_toArray, List.set_cons_zero, List.set_cons_succ]
      refine plan_one (l := []) rfl ?_
      refine wpQuiet_nil ?_
      have s12 := ((own_part K2.out 0 i (by omega) ⟨b2, 0, none⟩ (.inr (by rw [Nat.zero_mul]))).cap (c' := (i + 1))).below bx2 (fun a e => by cases e; exact hbd2)
      refine tail_app (some 31) (.tmp 24) (.tmp 30) 29 23 rfl rfl rfl rfl Tryz.underlying29 (.slice none 0 0) 1 24 sls_inf rfl (by decide) we.heap.size (.slice (some ⟨we.heap.size, 0, none⟩) 0 0) 0 [] rfl ownx2 (Nat.le_refl _) bx2.size (some ⟨b2, 0, none⟩) i (i + 1) _ rfl ?l12aa s12 ?o12aa (by omega) (by omega) ?_
      case l12aa => have := K2.out.1; rw [List.length_take, List.length_drop]; omega
      case o12aa => exact fun u hu => (sl_one HH.out.sl) u (List.mem_of_mem_drop (List.mem_of_mem_take hu))
      intro y2 z2 owny2 bz2 _
      have bz22 := bx2.trans bz2
      refine ⟨we.heap.size, Nat.le_refl _, ?_⟩
      simp only [Act.put, List.setIfInBounds_toArray, List.set_cons_zero, List.set_cons_succ]
      refine plan_one (l := []) rfl ?_
      refine wpQuiet_nil ?_
      have s22 := ((own_part K2.out (i + 1) (n - (i + 1)) (by omega) ⟨b2, 0, none⟩ (.inl (by omega))).cap (c' := 0)).below bz22 (fun a e => by cases e; exact hbd2)
      refine tail_app (some 39) (.tmp 31) (.tmp 38) 29 23 rfl rfl rfl rfl Tryz.underlying29 (.slice none 0 0) 1 24 sls_inf rfl (by decide) we.heap.size y2 (0 + i) _ rfl owny2 (Nat.le_refl _) bz22.size (some ⟨b2, 0, none⟩) (n - (i + 1)) (0) _ rfl ?l22aa s22 ?o22aa (by omega) (by omega) ?_
      case l22aa => have := K2.out.1; rw [List.length_take, List.length_drop]; omega
      case o22aa => exact fun u hu => (sl_one HH.out.sl) u (List.mem_of_mem_drop (List.mem_of_mem_take hu))
      intro u2 v2 ownu2 bv2 _
      have bv22 := bz22.trans bv2
      rw [Nat.zero_add] at ownu2
      refine ⟨we.heap.size, Nat.le_refl _, ?_⟩
      simp only [Act.put, List.setIfInBounds_toArray, List.set_cons_zero, List.set_cons_succ]
      obtain ⟨uA2, uc2, rfl⟩ := own_sl ownu2
      have e2u : i + (n - (i + 1)) = (H.ds.take i ++ H.ds.drop (i + 1)).length := by have := HDL2.out; rw [List.length_append, List.length_take, List.length_drop]; omega
      have hrow2 : v2.ownsRow we.heap.size 23 1 (.slice uA2 (i + (n - (i + 1))) uc2) (H.ds.take i ++ H.ds.drop (i + 1)).length ((H.ds.take i ++ H.ds.drop (i + 1)).map Prod.fst) := by
        rw [← e2u, List.map_append, List.map_take, List.map_drop]
        have e := ownu2
        rw [Nat.zero_mul, List.drop_zero, List.nil_append, Nat.mul_one, Nat.mul_one, Nat.mul_one, List.take_of_length_le (i := n - (i + 1)) (by have := K2.out.1; rw [List.length_drop]; omega)] at e
        exact e
      have HM2 := Lib.hid (HME.out.below bv22)
      have hm3 := HM2.out.dset _ _ (own_base hrow2 (Nat.zero_le _)) (fun d hd => HH.out.sl d (by rcases List.mem_append.1 hd with h | h; exact List.mem_of_mem_take h; exact List.mem_of_mem_drop h))
      have hto : HT F w p (H.drop i) (v2.setCell ⟨p, 2, none⟩ (.slice uA2 (i + (n - (i + 1))) uc2)) := by
        refine ⟨_, ⟨_, _, _, _, hm3⟩, ?_, fun k hk => ?_⟩
        · exact (HTC.out.trans (Tch.of_below (S := F) bv22) (fun _ _ h => h)).trans (Tch.set v2 ⟨p, 2, none⟩ _ HH.out.fp) (fun _ _ h => h)
        · have hs1 := HSZ.out
          rcases hk with (hk | hk) | hk
          · exact .inl hk
          · exact .inr (by have := (HL1.out k hk).1; omega)
          · exact .inr (by have := (hrow2.lt k hk).1; have := HTC.out.size; omega)
      have HTO := Lib.hid hto
      clear e2u s12 s22 owny2 ownx2 ownu2 bx2 bz2 bv2 hx2 hrow2 hm3 hto bz22 bv22
      have q2 := HM2.out.c2
      have f2 := HM2.out.thaw 2
      have hp2 := HM2.out.lt
      refine plan_fin (l := ?la2aa) (t := ?tl2aa) ?hla2aa ?htl2aa ?_
      case hla2aa => simp only [pick, List.getElem?_toArray, List.getElem?_cons_succ, List.getElem?_cons_zero]; rfl
      case htl2aa => simp only [pick, List.getElem?_toArray, List.getElem?_cons_succ, List.getElem?_cons_zero]; rfl
      repeat (go_big_quiet_step (fail))
      refine wpQuiet_nil ?_
      go_wp2
      go_end0
      exact ⟨rfl, HTO.out⟩
    · go_enter Tryz.func101, Tryz.ntmps101
      go_wp2_with fail
      refine wp_region_plan wd.heap.size (.one [0, 2, 3, 4, 5, 6, 7, 9, 10, 11, 12, 13, 14, 15] 1 (.one [] 8 (.one [] 16 (.fin [17, 18])))) [19] (by kernel_rfl) (by kernel_rfl) (by kernel_rfl) (fun _ _ _ _ _ h => h) ?_
      rw [HWD1.out]
      have t1 : ∀ z : LaterB wd.heap.size wd, z.val.cell? ⟨p, 1, none⟩ = some (.slice (some ⟨b1, 0, none⟩) n (i + 1)) := fun z => (z.ext.cell (p := ⟨p, 1, none⟩) hpd1).trans (by have := EE1.out; rw [hc1] at this; exact this)
      refine plan_one (l := ?seg1ab) ?hseg1ab ?_
      case hseg1ab => simp only [pick, List.getElem?_toArray, List.getElem?_cons_succ, List.getElem?_cons_zero]; rfl
      repeat (go_big_quiet_step (fail))
      refine wpQuiet_nil ?_
      clear t1
      obtain ⟨x1, hx1⟩ : ∃ x1, wd.alloc (.cells #[] 51) = x1 := ⟨_, rfl⟩
      have bx1 : Below wd.heap.size wd x1 := by rw [← hx1]; exact (Below.refl _ _).alloc (Nat.le_refl _) _
      have ownx1 : x1.ownsRow wd.heap.size 51 3 (.slice (some ⟨wd.heap.size, 0, none⟩) 0 0) 0 [] := by rw [← hx1]; exact World.ownsRow_lit wd _ 0 (Nat.le_refl _) (by unfold maxLen; omega) rfl
      refine tail_val2 (some 5) (w1 := x1) (v := .slice (some ⟨wd.heap.size, 0, none⟩) 0 0) rfl rfl rfl (by rw [← hx1]; exact bslice_run rfl rfl (run_none_b wd)) bx1 ⟨wd.heap.size, Nat.le_refl _, ?_⟩
      simp only [Act.put, List.setIfInBounds_toArray, List.set_cons_zero, List.set_cons_succ]
      refine plan_one (l := []) rfl ?_
      refine wpQuiet_nil ?_
      have s11 := ((own_part K1.out 0 i (by omega) ⟨b1, 0, none⟩ (.inr (by rw [Nat.zero_mul]))).cap (c' := (i + 1))).below bx1 (fun a e => by cases e; exact hbd1)
      refine tail_app (some 12) (.tmp 5) (.tmp 11) 28 51 rfl rfl rfl rfl Tryz.underlying28 (.agg #[.int .i64 0, .int .i64 0, .bool false]) 3 24 bk_inf rfl (by decide) wd.heap.size (.slice (some ⟨wd.heap.size, 0, none⟩) 0 0) 0 [] rfl ownx1 (Nat.le_refl _) bx1.size (some ⟨b1, 0, none⟩) i (i + 1) _ rfl ?l11ab s11 ?o11ab (by omega) (by omega) ?_
      case l11ab => have := K1.out.1; rw [List.length_take, List.length_drop]; omega
      case o11ab => exact fun u hu => (flatK_one H.blks) u (List.mem_of_mem_drop (List.mem_of_mem_take hu))
      intro y1 z1 owny1 bz1 _
      have bz21 := bx1.trans bz1
      refine ⟨wd.heap.size, Nat.le_refl _, ?_⟩
      simp only [Act.put, List.setIfInBounds_toArray, List.set_cons_zero, List.set_cons_succ]
      refine plan_one (l := []) rfl ?_
      refine wpQuiet_nil ?_
      have s21 := ((own_part K1.out (i + 1) (n - (i + 1)) (by omega) ⟨b1, 0, none⟩ (.inl (by omega))).cap (c' := 0)).below bz21 (fun a e => by cases e; exact hbd1)
      refine tail_app (some 20) (.tmp 12) (.tmp 19) 28 51 rfl rfl rfl rfl Tryz.underlying28 (.agg #[.int .i64 0, .int .i64 0, .bool false]) 3 24 bk_inf rfl (by decide) wd.heap.size y1 (0 + i) _ rfl owny1 (Nat.le_refl _) bz21.size (some ⟨b1, 0, none⟩) (n - (i + 1)) (0) _ rfl ?l21ab s21 ?o21ab (by omega) (by omega) ?_
      case l21ab => have := K1.out.1; rw [List.length_take, List.length_drop]; omega
      case o21ab => exact fun u hu => (flatK_one H.blks) u (List.mem_of_mem_drop (List.mem_of_mem_take hu))
      intro u1 v1 ownu1 bv1 _
      have bv21 := bz21.trans bv1
      rw [Nat.zero_add] at ownu1
      refine ⟨wd.heap.size, Nat.le_refl _, ?_⟩
      simp only [Act.put, List.setIfInBounds_toArray, List.set_cons_zero, List.set_cons_succ]
      obtain ⟨uA1, uc1, rfl⟩ := own_sl ownu1
      have e1u : i + (n - (i + 1)) = (H.blks.take i ++ H.blks.drop (i + 1)).length := by have := HN.out; rw [List.length_append, List.length_take, List.length_drop]; omega
      have hrow1 : v1.ownsRow wd.heap.size 51 3 (.slice uA1 (i + (n - (i + 1))) uc1) (H.blks.take i ++ H.blks.drop (i + 1)).length (flatK (H.blks.take i ++ H.blks.drop (i + 1))) := by
        rw [← e1u, flatK_append, flatK_take, flatK_drop]
        have e := ownu1
        rw [Nat.zero_mul, List.drop_zero, List.nil_append, List.take_of_length_le (i := (n - (i + 1)) * 3) (by have := K1.out.1; rw [List.length_drop]; omega)] at e
        exact e
      have HM1 := Lib.hid (HH.out.below (HBD.out.trans (by rw [HSZ.out]; exact bv21)))
      have hm2' := HM1.out.bset _ _ (own_base hrow1 (Nat.zero_le _))
      have HB1 := Lib.hid bv21
      have HL1 := Lib.hid hrow1.lt
      clear e1u s11 s21 owny1 ownx1 ownu1 bx1 bz1 bv1 hx1 hrow1 bz21 bv21
      have q1 := HM1.out.c1
      have f1 := HM1.out.thaw 1
      have hp1 := HM1.out.lt
      refine plan_fin (l := ?la1ab) (t := ?tl1ab) ?hla1ab ?htl1ab ?_
      case hla1ab => simp only [pick, List.getElem?_toArray, List.getElem?_cons_succ, List.getElem?_cons_zero]; rfl
      case htl1ab => simp only [pick, List.getElem?_toArray, List.getElem?_cons_succ, List.getElem?_cons_zero]; rfl
      repeat (go_big_quiet_step (fail))
      refine wpQuiet_nil ?_
      go_wp2_with fail
      clear q1 f1 hp1
      obtain ⟨v2, hv2⟩ : ∃ v2, v1.setCell ⟨p, 1, none⟩ (.slice uA1 (i + (n - (i + 1))) uc1) = v2 := ⟨_, rfl⟩
      rw [hv2] at hm2'
      obtain ⟨we, hwe⟩ : ∃ we, v2.drew = we := ⟨_, rfl⟩
      have hbe : Below v2.heap.size v2 we := by rw [← hwe]; exact (Below.refl _ _).drew
      have HME := Lib.hid (hm2'.below hbe)
      have htc : Tch F w we := ((Tch.of_below (S := F) (HBD.out.trans (by rw [HSZ.out]; exact HB1.out))).trans (by rw [← hv2]; exact Tch.set v1 ⟨p, 1, none⟩ _ HH.out.fp) (fun _ _ h => h)).trans (Tch.of_below (S := F) hbe) (fun _ _ h => h)
      have HTC := Lib.hid htc
      have HWD2 : Hid ((v1.setCell ⟨p, 1, none⟩ (.slice uA1 (i + (n - (i + 1))) uc1)).drew = we) := (show _ = _ by rw [hv2]; exact hwe)
      have hod : we.ownsRow 0 23 1 (.slice (some ⟨b2, 0, none⟩) n c2) n (H.ds.map Prod.fst) := by have e := HME.out.od; rw [← HDL2.out]; exact e
      have K2 := Lib.hid hod
      have EE2 : Hid (we.cell? ⟨p, 2, none⟩ = some (.slice (some ⟨b2, 0, none⟩) n c2)) := (show _ = _ by have e := HME.out.c2; rw [← HDL2.out]; exact e)
      have hpd2 := HME.out.lt
      have hbd2 : b2 < we.heap.size := own_lt hod rfl
      clear hm2' hv2 hwe hbe htc hod
      refine wp_region_plan we.heap.size (.one [0, 2, 3, 4, 5, 6, 7, 9, 10, 11, 12, 13, 14, 15] 1 (.one [] 8 (.one [] 16 (.fin [17, 18])))) [19] (by kernel_rfl) (by kernel_rfl) (by kernel_rfl) (fun _ _ _ _ _ h => h) ?_
      rw [HWD2.out]
      have t1 : ∀ z : LaterB we.heap.size we, z.val.cell? ⟨p, 2, none⟩ = some (.slice (some ⟨b2, 0, none⟩) n c2) := fun z => (z.ext.cell (p := ⟨p, 2, none⟩) hpd2).trans (by have := EE2.out; exact this)
      refine plan_one (l := ?seg2ab) ?hseg2ab ?_
      case hseg2ab => simp only [pick, List.getElem?_toArray, List.getElem?_cons_succ, List.getElem?_cons_zero]; rfl
      repeat (go_big_quiet_step (fail))
      refine wpQuiet_nil ?_
      clear t1
      obtain ⟨x2, hx2⟩ : ∃ x2, we.alloc (.cells #[] 23) = x2 := ⟨_, rfl⟩
      have bx2 : Below we.heap.size we x2 := by rw [← hx2]; exact (Below.refl _ _).alloc (Nat.le_refl _) _
      have ownx2 : x2.ownsRow we.heap.size 23 1 (.slice (some ⟨we.heap.size, 0, none⟩) 0 0) 0 [] := by rw [← hx2]; exact World.ownsRow_lit we _ 0 (Nat.le_refl _) (by unfold maxLen; omega) rfl
      refine tail_val2 (some 24) (w1 := x2) (v := .slice (some ⟨we.heap.size, 0, none⟩) 0 0) rfl rfl rfl (by rw [← hx2]; exact bslice_run rfl rfl (run_none_s we)) bx2 ⟨we.heap.size, Nat.le_refl _, ?_⟩
      simp only [Act.put, List.setIfInBounds_toArray, List.set_cons_zero, List.set_cons_succ]
      refine plan_one (l := []) rfl ?_
      refine wpQuiet_nil ?_
      have s12 := ((own_part K2.out 0 i (by omega) ⟨b2, 0, none⟩ (.inr (by rw [Nat.zero_mul]))).cap (c' := c2)).below bx2 (fun a e => by cases e; exact hbd2)
      refine tail_app (some 31) (.tmp 24) (.tmp 30) 29 23 rfl rfl rfl rfl Tryz.underlying29 (.slice none 0 0) 1 24 sls_inf rfl (by decide) we.heap.size (.slice (some ⟨we.heap.size, 0, none⟩) 0 0) 0 [] rfl ownx2 (Nat.le_refl _) bx2.size (some ⟨b2, 0, none⟩) i c2 _ rfl ?l12ab s12 ?o12ab (by omega) (by omega) ?_
      case l12ab => have := K2.out.1; rw [List.length_take, List.length_drop]; omega
      case o12ab => exact fun u hu => (sl_one HH.out.sl) u (List.mem_of_mem_drop (List.mem_of_mem_take hu))
      intro y2 z2 owny2 bz2 _
      have bz22 := bx2.trans bz2
      refine ⟨we.heap.size, Nat.le_refl _, ?_⟩
      simp only [Act.put, List.setIfInBounds_toArray, List.set_cons_zero, List.set_cons_succ]
      refine plan_one (l := []) rfl ?_
      refine wpQuiet_nil ?_
      have s22 := ((own_part K2.out (i + 1) (n - (i + 1)) (by omega) ⟨b2, i + 1, none⟩ (.inr (by rw [Nat.mul_one]))).cap (c' := c2 - (i + 1))).below bz22 (fun a e => by cases e; exact hbd2)
      refine tail_app (some 39) (.tmp 31) (.tmp 38) 29 23 rfl rfl rfl rfl Tryz.underlying29 (.slice none 0 0) 1 24 sls_inf rfl (by decide) we.heap.size y2 (0 + i) _ rfl owny2 (Nat.le_refl _) bz22.size (some ⟨b2, i + 1, none⟩) (n - (i + 1)) (c2 - (i + 1)) _ rfl ?l22ab s22 ?o22ab (by omega) (by omega) ?_
      case l22ab => have := K2.out.1; rw [List.length_take, List.length_drop]; omega
      case o22ab => exact fun u hu => (sl_one HH.out.sl) u (List.mem_of_mem_drop (List.mem_of_mem_take hu))
      intro u2 v2 ownu2 bv2 _
      have bv22 := bz22.trans bv2
      rw [Nat.zero_add] at ownu2
      refine ⟨we.heap.size, Nat.le_refl _, ?_⟩
      simp only [Act.put, List.setIfInBounds_toArray, List.set_cons_zero, List.set_cons_succ]
      obtain ⟨uA2, uc2, rfl⟩ := own_sl ownu2
      have e2u : i + (n - (i + 1)) = (H.ds.take i ++ H.ds.drop (i + 1)).length := by have := HDL2.out; rw [List.length_append, List.length_take, List.length_drop]; omega
      have hrow2 : v2.ownsRow we.heap.size 23 1 (.slice uA2 (i + (n - (i + 1))) uc2) (H.ds.take i ++ H.ds.drop (i + 1)).length ((H.ds.take i ++ H.ds.drop (i + 1)).map Prod.fst) := by
        rw [← e2u, List.map_append, List.map_take, List.map_drop]
        have e := ownu2
        rw [Nat.zero_mul, List.drop_zero, List.nil_append, Nat.mul_one, Nat.mul_one, Nat.mul_one, List.take_of_length_le (i := n - (i + 1)) (by have := K2.out.1; rw [List.length_drop]; omega)] at e
        exact e
      have HM2 := Lib.hid (HME.out.below bv22)
      have hm3 := HM2.out.dset _ _ (own_base hrow2 (Nat.zero_le _)) (fun d hd => HH.out.sl d (by rcases List.mem_append.1 hd with h | h; exact List.mem_of_mem_take h; exact List.mem_of_mem_drop h))
      have hto : HT F w p (H.drop i) (v2.setCell ⟨p, 2, none⟩ (.slice uA2 (i + (n - (i + 1))) uc2)) := by
        refine ⟨_, ⟨_, _, _, _, hm3⟩, ?_, fun k hk => ?_⟩
        · exact (HTC.out.trans (Tch.of_below (S := F) bv22) (fun _ _ h => h)).trans (Tch.set v2 ⟨p, 2, none⟩ _ HH.out.fp) (fun _ _ h => h)
        · have hs1 := HSZ.out
          rcases hk with (hk | hk) | hk
          · exact .inl hk
          · exact .inr (by have := (HL1.out k hk).1; omega)
          · exact .inr (by have := (hrow2.lt k hk).1; have := HTC.out.size; omega)
      have HTO := Lib.hid hto
      clear e2u s12 s22 owny2 ownx2 ownu2 bx2 bz2 bv2 hx2 hrow2 hm3 hto bz22 bv22
      have q2 := HM2.out.c2
      have f2 := HM2.out.thaw 2
      have hp2 := HM2.out.lt
      refine plan_fin (l := ?la2ab) (t := ?tl2ab) ?hla2ab ?htl2ab ?_
      case hla2ab => simp only [pick, List.getElem?_toArray, List.getElem?_cons_succ, List.getElem?_cons_zero]; rfl
      case htl2ab => simp only [pick, List.getElem?_toArray, List.getElem?_cons_succ, List.getElem?_cons_zero]; rfl
      repeat (go_big_quiet_step (fail))
      refine wpQuiet_nil ?_
      go_wp2
      go_end0
      exact ⟨rfl, HTO.out⟩
  · by_cases hc2 : c2 = i + 1
    · go_enter Tryz.func101, Tryz.ntmps101
      go_wp2_with fail
      refine wp_region_plan wd.heap.size (.one [0, 2, 3, 4, 5, 6, 7, 9, 10, 11, 12, 13, 14, 15] 1 (.one [] 8 (.one [] 16 (.fin [17, 18])))) [19] (by kernel_rfl) (by kernel_rfl) (by kernel_rfl) (fun _ _ _ _ _ h => h) ?_
      rw [HWD1.out]
      have t1 : ∀ z : LaterB wd.heap.size wd, z.val.cell? ⟨p, 1, none⟩ = some (.slice (some ⟨b1, 0, none⟩) n c1) := fun z => (z.ext.cell (p := ⟨p, 1, none⟩) hpd1).trans (by have := EE1.out; exact this)
      refine plan_one (l := ?seg1ba) ?hseg1ba ?_
      case hseg1ba => simp only [pick, List.getElem?_toArray, List.getElem?_cons_succ, List.getElem?_cons_zero]; rfl
      repeat (go_big_quiet_step (fail))
      refine wpQuiet_nil ?_
      clear t1
      obtain ⟨x1, hx1⟩ : ∃ x1, wd.alloc (.cells #[] 51) = x1 := ⟨_, rfl⟩
      have bx1 : Below wd.heap.size wd x1 := by rw [← hx1]; exact (Below.refl _ _).alloc (Nat.le_refl _) _
      have ownx1 : x1.ownsRow wd.heap.size 51 3 (.slice (some ⟨wd.heap.size, 0, none⟩) 0 0) 0 [] := by rw [← hx1]; exact World.ownsRow_lit wd _ 0 (Nat.le_refl _) (by unfold maxLen; omega) rfl
      refine tail_val2 (some 5) (w1 := x1) (v := .slice (some ⟨wd.heap.size, 0, none⟩) 0 0) rfl rfl rfl (by rw [← hx1]; exact bslice_run rfl rfl (run_none_b wd)) bx1 ⟨wd.heap.size, Nat.le_refl _, ?_⟩
      simp only [Act.put, List.setIfInBounds_toArray, List.set_cons_zero, List.set_cons_succ]
      refine plan_one (l := []) rfl ?_
      refine wpQuiet_nil ?_
      have s11 := ((own_part K1.out 0 i (by omega) ⟨b1, 0, none⟩ (.inr (by rw [Nat.zero_mul]))).cap (c' := c1)).below bx1 (fun a e => by cases e; exact hbd1)
      refine tail_app (some 12) (.tmp 5) (.tmp 11) 28 51 rfl rfl rfl rfl Tryz.underlying28 (.agg #[.int .i64 0, .int .i64 0, .bool false]) 3 24 bk_inf rfl (by decide) wd.heap.size (.slice (some ⟨wd.heap.size, 0, none⟩) 0 0) 0 [] rfl ownx1 (Nat.le_refl _) bx1.size (some ⟨b1, 0, none⟩) i c1 _ rfl ?l11ba s11 ?o11ba (by omega) (by omega) ?_
      case l11ba => have := K1.out.1; rw [List.length_take, List.length_drop]; omega
      case o11ba => exact fun u hu => (flatK_one H.blks) u (List.mem_of_mem_drop (List.mem_of_mem_take hu))
      intro y1 z1 owny1 bz1 _
      have bz21 := bx1.trans bz1
      refine ⟨wd.heap.size, Nat.le_refl _, ?_⟩
      simp only [Act.put, List.setIfInBounds_toArray, List.set_cons_zero, List.set_cons_succ]
      refine plan_one (l := []) rfl ?_
      refine wpQuiet_nil ?_
      have s21 := ((own_part K1.out (i + 1) (n - (i + 1)) (by omega) ⟨b1, (i + 1) * 3, none⟩ (.inr rfl)).cap (c' := c1 - (i + 1))).below bz21 (fun a e => by cases e; exact hbd1)
      refine tail_app (some 20) (.tmp 12) (.tmp 19) 28 51 rfl rfl rfl rfl Tryz.underlying28 (.agg #[.int .i64 0, .int .i64 0, .bool false]) 3 24 bk_inf rfl (by decide) wd.heap.size y1 (0 + i) _ rfl owny1 (Nat.le_refl _) bz21.size (some ⟨b1, (i + 1) * 3, none⟩) (n - (i + 1)) (c1 - (i + 1)) _ rfl ?l21ba s21 ?o21ba (by omega) (by omega) ?_
      case l21ba => have := K1.out.1; rw [List.length_take, List.length_drop]; omega
      case o21ba => exact fun u hu => (flatK_one H.blks) u (List.mem_of_mem_drop (List.mem_of_mem_take hu))
      intro u1 v1 ownu1 bv1 _
      have bv21 := bz21.trans bv1
      rw [Nat.zero_add] at ownu1
      refine ⟨wd.heap.size, Nat.le_refl _, ?_⟩
      simp only [Act.put, List.setIfInBounds_toArray, List.set_cons_zero, List.set_cons_succ]
      obtain ⟨uA1, uc1, rfl⟩ := own_sl ownu1
      have e1u : i + (n - (i + 1)) = (H.blks.take i ++ H.blks.drop (i + 1)).length := by have := HN.out; rw [List.length_append, List.length_take, List.length_drop]; omega
      have hrow1 : v1.ownsRow wd.heap.size 51 3 (.slice uA1 (i + (n - (i + 1))) uc1) (H.blks.take i ++ H.blks.drop (i + 1)).length (flatK (H.blks.take i ++ H.blks.drop (i + 1))) := by
        rw [← e1u, flatK_append, flatK_take, flatK_drop]
        have e := ownu1
        rw [Nat.zero_mul, List.drop_zero, List.nil_append, List.take_of_length_le (i := (n - (i + 1)) * 3) (by have := K1.out.1; rw [List.length_drop]; omega)] at e
        exact e
      have HM1 := Lib.hid (HH.out.below (HBD.out.trans (by rw [HSZ.out]; exact bv21)))
      have hm2' := HM1.out.bset _ _ (own_base hrow1 (Nat.zero_le _))
      have HB1 := Lib.hid bv21
      have HL1 := Lib.hid hrow1.lt
      clear e1u s11 s21 owny1 ownx1 ownu1 bx1 bz1 bv1 hx1 hrow1 bz21 bv21
      have q1 := HM1.out.c1
      have f1 := HM1.out.thaw 1
      have hp1 := HM1.out.lt
      refine plan_fin (l := ?la1ba) (t := ?tl1ba) ?hla1ba ?htl1ba ?_
      case hla1ba => simp only [pick, List.getElem?_toArray, List.getElem?_cons_succ, List.getElem?_cons_zero]; rfl
      case htl1ba => simp only [pick, List.getElem?_toArray, List.getElem?_cons_succ, List.getElem?_cons_zero]; rfl
      repeat (go_big_quiet_step (fail))
      refine wpQuiet_nil ?_
      go_wp2_with fail
      clear q1 f1 hp1
      obtain ⟨v2, hv2⟩ : ∃ v2, v1.setCell ⟨p, 1, none⟩ (.slice uA1 (i + (n - (i + 1))) uc1) = v2 := ⟨_, rfl⟩
      rw [hv2] at hm2'
      obtain ⟨we, hwe⟩ : ∃ we, v2.drew = we := ⟨_, rfl⟩
      have hbe : Below v2.heap.size v2 we := by rw [← hwe]; exact (Below.refl _ _).drew
      have HME := Lib.hid (hm2'.below hbe)
      have htc : Tch F w we := ((Tch.of_below (S := F) (HBD.out.trans (by rw [HSZ.out]; exact HB1.out))).trans (by rw [← hv2]; exact Tch.set v1 ⟨p, 1, none⟩ _ HH.out.fp) (fun _ _ h => h)).trans (Tch.of_below (S := F) hbe) (fun _ _ h => h)
      have HTC := Lib.hid htc
      have HWD2 : Hid ((v1.setCell ⟨p, 1, none⟩ (.slice uA1 (i + (n - (i + 1))) uc1)).drew = we) := (show _ = _ by rw [hv2]; exact hwe)
      have hod : we.ownsRow 0 23 1 (.slice (some ⟨b2, 0, none⟩) n c2) n (H.ds.map Prod.fst) := by have e := HME.out.od; rw [← HDL2.out]; exact e
      have K2 := Lib.hid hod
      have EE2 : Hid (we.cell? ⟨p, 2, none⟩ = some (.slice (some ⟨b2, 0, none⟩) n c2)) := (show _ = _ by have e := HME.out.c2; rw [← HDL2.out]; exact e)
      have hpd2 := HME.out.lt
      have hbd2 : b2 < we.heap.size := own_lt hod rfl
      clear hm2' hv2 hwe hbe htc hod
      refine wp_region_plan we.heap.size (.one [0, 2, 3, 4, 5, 6, 7, 9, 10, 11, 12, 13, 14, 15] 1 (.one [] 8 (.one [] 16 (.fin [17, 18])))) [19] (by kernel_rfl) (by kernel_rfl) (by kernel_rfl) (fun _ _ _ _ _ h => h) ?_
      rw [HWD2.out]
      have t1 : ∀ z : LaterB we.heap.size we, z.val.cell? ⟨p, 2, none⟩ = some (.slice (some ⟨b2, 0, none⟩) n (i + 1)) := fun z => (z.ext.cell (p := ⟨p, 2, none⟩) hpd2).trans (by have := EE2.out; rw [hc2] at this; exact this)
      refine plan_one (l := ?seg2ba) ?hseg2ba ?_
      case hseg2ba => simp only [pick, List.getElem?_toArray, List.getElem?_cons_succ, List.getElem?_cons_zero]; rfl
      repeat (go_big_quiet_step (fail))
      refine wpQuiet_nil ?_
      clear t1
      obtain ⟨x2, hx2⟩ : ∃ x2, we.alloc (.cells #[] 23) = x2 := ⟨_, rfl⟩
      have bx2 : Below we.heap.size we x2 := by rw [← hx2]; exact (Below.refl _ _).alloc (Nat.le_refl _) _
      have ownx2 : x2.ownsRow we.heap.size 23 1 (.slice (some ⟨we.heap.size, 0, none⟩) 0 0) 0 [] := by rw [← hx2]; exact World.ownsRow_lit we _ 0 (Nat.le_refl _) (by unfold maxLen; omega) rfl
      refine tail_val2 (some 24) (w1 := x2) (v := .slice (some ⟨we.heap.size, 0, none⟩) 0 0) rfl rfl rfl (by rw [← hx2]; exact bslice_run rfl rfl (run_none_s we)) bx2 ⟨we.heap.size, Nat.le_refl _, ?_⟩
      simp only [Act.put, List.setIfInBounds_toArray, List.set_cons_zero, List.set_cons_succ]
      refine plan_one (l := []) rfl ?_
      refine wpQuiet_nil ?_
      have s12 := ((own_part K2.out 0 i (by omega) ⟨b2, 0, none⟩ (.inr (by rw [Nat.zero_mul]))).cap (c' := (i + 1))).below bx2 (fun a e => by cases e; exact hbd2)
      refine tail_app (some 31) (.tmp 24) (.tmp 30) 29 23 rfl rfl rfl rfl Tryz.underlying29 (.slice none 0 0) 1 24 sls_inf rfl (by decide) we.heap.size (.slice (some ⟨we.heap.size, 0, none⟩) 0 0) 0 [] rfl ownx2 (Nat.le_refl _) bx2.size (some ⟨b2, 0, none⟩) i (i + 1) _ rfl ?l12ba s12 ?o12ba (by omega) (by omega) ?_
      case l12ba => have := K2.out.1; rw [List.length_take, List.length_drop]; omega
      case o12ba => exact fun u hu => (sl_one HH.out.sl) u (List.mem_of_mem_drop (List.mem_of_mem_take hu))
      intro y2 z2 owny2 bz2 _
      have bz22 := bx2.trans bz2
      refine ⟨we.heap.size, Nat.le_refl _, ?_⟩
      simp only [Act.put, List.setIfInBounds_toArray, List.set_cons_zero, List.set_cons_succ]
      refine plan_one (l := []) rfl ?_
      refine wpQuiet_nil ?_
      have s22 := ((own_part K2.out (i + 1) (n - (i + 1)) (by omega) ⟨b2, 0, none⟩ (.inl (by omega))).cap (c' := 0)).below bz22 (fun a e => by cases e; exact hbd2)
      refine tail_app (some 39) (.tmp 31) (.tmp 38) 29 23 rfl rfl rfl rfl Tryz.underlying29 (.slice none 0 0) 1 24 sls_inf rfl (by decide) we.heap.size y2 (0 + i) _ rfl owny2 (Nat.le_refl _) bz22.size (some ⟨b2, 0, none⟩) (n - (i + 1)) (0) _ rfl ?l22ba s22 ?o22ba (by omega) (by omega) ?_
      case l22ba => have := K2.out.1; rw [List.length_take, List.length_drop]; omega
      case o22ba => exact fun u hu => (sl_one HH.out.sl) u (List.mem_of_mem_drop (List.mem_of_mem_take hu))
      intro u2 v2 ownu2 bv2 _
      have bv22 := bz22.trans bv2
      rw [Nat.zero_add] at ownu2
      refine ⟨we.heap.size, Nat.le_refl _, ?_⟩
      simp only [Act.put, List.setIfInBounds_toArray, List.set_cons_zero, List.set_cons_succ]
      obtain ⟨uA2, uc2, rfl⟩ := own_sl ownu2
      have e2u : i + (n - (i + 1)) = (H.ds.take i ++ H.ds.drop (i + 1)).length := by have := HDL2.out; rw [List.length_append, List.length_take, List.length_drop]; omega
      have hrow2 : v2.ownsRow we.heap.size 23 1 (.slice uA2 (i + (n - (i + 1))) uc2) (H.ds.take i ++ H.ds.drop (i + 1)).length ((H.ds.take i ++ H.ds.drop (i + 1)).map Prod.fst) := by
        rw [← e2u, List.map_append, List.map_take, List.map_drop]
        have e := ownu2
        rw [Nat.zero_mul, List.drop_zero, List.nil_append, Nat.mul_one, Nat.mul_one, Nat.mul_one, List.take_of_length_le (i := n - (i + 1)) (by have := K2.out.1; rw [List.length_drop]; omega)] at e
        exact e
      have HM2 := Lib.hid (HME.out.below bv22)
      have hm3 := HM2.out.dset _ _ (own_base hrow2 (Nat.zero_le _)) (fun d hd => HH.out.sl d (by rcases List.mem_append.1 hd with h | h; exact List.mem_of_mem_take h; exact List.mem_of_mem_drop h))
      have hto : HT F w p (H.drop i) (v2.setCell ⟨p, 2, none⟩ (.slice uA2 (i + (n - (i + 1))) uc2)) := by
        refine ⟨_, ⟨_, _, _, _, hm3⟩, ?_, fun k hk => ?_⟩
        · exact (HTC.out.trans (Tch.of_below (S := F) bv22) (fun _ _ h => h)).trans (Tch.set v2 ⟨p, 2, none⟩ _ HH.out.fp) (fun _ _ h => h)
        · have hs1 := HSZ.out
          rcases hk with (hk | hk) | hk
          · exact .inl hk
          · exact .inr (by have := (HL1.out k hk).1; omega)
          · exact .inr (by have := (hrow2.lt k hk).1; have := HTC.out.size; omega)
      have HTO := Lib.hid hto
      clear e2u s12 s22 owny2 ownx2 ownu2 bx2 bz2 bv2 hx2 hrow2 hm3 hto bz22 bv22
      have q2 := HM2.out.c2
      have f2 := HM2.out.thaw 2
      have hp2 := HM2.out.lt
      refine plan_fin (l := ?la2ba) (t := ?tl2ba) ?hla2ba ?htl2ba ?_
      case hla2ba => simp only [pick, List.getElem?_toArray, List.getElem?_cons_succ, List.getElem?_cons_zero]; rfl
      case htl2ba => simp only [pick, List.getElem?_toArray, List.getElem?_cons_succ, List.getElem?_cons_zero]; rfl
      repeat (go_big_quiet_step (fail))
      refine wpQuiet_nil ?_
      go_wp2
      go_end0
      exact ⟨rfl, HTO.out⟩
    · go_enter Tryz.func101, Tryz.ntmps101
      go_wp2_with fail
      refine wp_region_plan wd.heap.size (.one [0, 2, 3, 4, 5, 6, 7, 9, 10, 11, 12, 13, 14, 15] 1 (.one [] 8 (.one [] 16 (.fin [17, 18])))) [19] (by kernel_rfl) (by kernel_rfl) (by kernel_rfl) (fun _ _ _ _ _ h => h) ?_
      rw [HWD1.out]
      have t1 : ∀ z : LaterB wd.heap.size wd, z.val.cell? ⟨p, 1, none⟩ = some (.slice (some ⟨b1, 0, none⟩) n c1) := fun z => (z.ext.cell (p := ⟨p, 1, none⟩) hpd1).trans (by have := EE1.out; exact this)
      refine plan_one (l := ?seg1bb) ?hseg1bb ?_
      case hseg1bb => simp only [pick, List.getElem?_toArray, List.getElem?_cons_succ, List.getElem?_cons_zero]; rfl
      repeat (go_big_quiet_step (fail))
      refine wpQuiet_nil ?_
      clear t1
      obtain ⟨x1, hx1⟩ : ∃ x1, wd.alloc (.cells #[] 51) = x1 := ⟨_, rfl⟩
      have bx1 : Below wd.heap.size wd x1 := by rw [← hx1]; exact (Below.refl _ _).alloc (Nat.le_refl _) _
      have ownx1 : x1.ownsRow wd.heap.size 51 3 (.slice (some ⟨wd.heap.size, 0, none⟩) 0 0) 0 [] := by rw [← hx1]; exact World.ownsRow_lit wd _ 0 (Nat.le_refl _) (by unfold maxLen; omega) rfl
      refine tail_val2 (some 5) (w1 := x1) (v := .slice (some ⟨wd.heap.size, 0, none⟩) 0 0) rfl rfl rfl (by rw [← hx1]; exact bslice_run rfl rfl (run_none_b wd)) bx1 ⟨wd.heap.size, Nat.le_refl _, ?_⟩
      simp only [Act.put, List.setIfInBounds_toArray, List.set_cons_zero, List.set_cons_succ]
      refine plan_one (l := []) rfl ?_
      refine wpQuiet_nil ?_
      have s11 := ((own_part K1.out 0 i (by omega) ⟨b1, 0, none⟩ (.inr (by rw [Nat.zero_mul]))).cap (c' := c1)).below bx1 (fun a e => by cases e; exact hbd1)
      refine tail_app (some 12) (.tmp 5) (.tmp 11) 28 51 rfl rfl rfl rfl Tryz.underlying28 (.agg #[.int .i64 0, .int .i64 0, .bool false]) 3 24 bk_inf rfl (by decide) wd.heap.size (.slice (some ⟨wd.heap.size, 0, none⟩) 0 0) 0 [] rfl ownx1 (Nat.le_refl _) bx1.size (some ⟨b1, 0, none⟩) i c1 _ rfl ?l11bb s11 ?o11bb (by omega) (by omega) ?_
      case l11bb => have := K1.out.1; rw [List.length_take, List.length_drop]; omega
      case o11bb => exact fun u hu => (flatK_one H.blks) u (List.mem_of_mem_drop (List.mem_of_mem_take hu))
      intro y1 z1 owny1 bz1 _
      have bz21 := bx1.trans bz1
      refine ⟨wd.heap.size, Nat.le_refl _, ?_⟩
      simp only [Act.put, List.setIfInBounds_toArray, List.set_cons_zero, List.set_cons_succ]
      refine plan_one (l := []) rfl ?_
      refine wpQuiet_nil ?_
      have s21 := ((own_part K1.out (i + 1) (n - (i + 1)) (by omega) ⟨b1, (i + 1) * 3, none⟩ (.inr rfl)).cap (c' := c1 - (i + 1))).below bz21 (fun a e => by cases e; exact hbd1)
      refine tail_app (some 20) (.tmp 12) (.tmp 19) 28 51 rfl rfl rfl rfl Tryz.underlying28 (.agg #[.int .i64 0, .int .i64 0, .bool false]) 3 24 bk_inf rfl (by decide) wd.heap.size y1 (0 + i) _ rfl owny1 (Nat.le_refl _) bz21.size (some ⟨b1, (i + 1) * 3, none⟩) (n - (i + 1)) (c1 - (i + 1)) _ rfl ?l21bb s21 ?o21bb (by omega) (by omega) ?_
      case l21bb => have := K1.out.1; rw [List.length_take, List.length_drop]; omega
      case o21bb => exact fun u hu => (flatK_one H.blks) u (List.mem_of_mem_drop (List.mem_of_mem_take hu))
      intro u1 v1 ownu1 bv1 _
      have bv21 := bz21.trans bv1
      rw [Nat.zero_add] at ownu1
      refine ⟨wd.heap.size, Nat.le_refl _, ?_⟩
      simp only [Act.put, List.setIfInBounds_toArray, List.set_cons_zero, List.set_cons_succ]
      obtain ⟨uA1, uc1, rfl⟩ := own_sl ownu1
      have e1u : i + (n - (i + 1)) = (H.blks.take i ++ H.blks.drop (i + 1)).length := by have := HN.out; rw [List.length_append, List.length_take, List.length_drop]; omega
      have hrow1 : v1.ownsRow wd.heap.size 51 3 (.slice uA1 (i + (n - (i + 1))) uc1) (H.blks.take i ++ H.blks.drop (i + 1)).length (flatK (H.blks.take i ++ H.blks.drop (i + 1))) := by
        rw [← e1u, flatK_append, flatK_take, flatK_drop]
        have e := ownu1
        rw [Nat.zero_mul, List.drop_zero, List.nil_append, List.take_of_length_le (i := (n - (i + 1)) * 3) (by have := K1.out.1; rw [List.length_drop]; omega)] at e
        exact e
      have HM1 := Lib.hid (HH.out.below (HBD.out.trans (by rw [HSZ.out]; exact bv21)))
      have hm2' := HM1.out.bset _ _ (own_base hrow1 (Nat.zero_le _))
      have HB1 := Lib.hid bv21
      have HL1 := Lib.hid hrow1.lt
      clear e1u s11 s21 owny1 ownx1 ownu1 bx1 bz1 bv1 hx1 hrow1 bz21 bv21
      have q1 := HM1.out.c1
      have f1 := HM1.out.thaw 1
      have hp1 := HM1.out.lt
      refine plan_fin (l := ?la1bb) (t := ?tl1bb) ?hla1bb ?htl1bb ?_
      case hla1bb => simp only [pick, List.getElem?_toArray, List.getElem?_cons_succ, List.getElem?_cons_zero]; rfl
      case htl1bb => simp only [pick, List.getElem?_toArray, List.getElem?_cons_succ, List.getElem?_cons_zero]; rfl
      repeat (go_big_quiet_step (fail))
      refine wpQuiet_nil ?_
      go_wp2_with fail
      clear q1 f1 hp1
      obtain ⟨v2, hv2⟩ : ∃ v2, v1.setCell ⟨p, 1, none⟩ (.slice uA1 (i + (n - (i + 1))) uc1) = v2 := ⟨_, rfl⟩
      rw [hv2] at hm2'
      obtain ⟨we, hwe⟩ : ∃ we, v2.drew = we := ⟨_, rfl⟩
      have hbe : Below v2.heap.size v2 we := by rw [← hwe]; exact (Below.refl _ _).drew
      have HME := Lib.hid (hm2'.below hbe)
      have htc : Tch F w we := ((Tch.of_below (S := F) (HBD.out.trans (by rw [HSZ.out]; exact HB1.out))).trans (by rw [← hv2]; exact Tch.set v1 ⟨p, 1, none⟩ _ HH.out.fp) (fun _ _ h => h)).trans (Tch.of_below (S := F) hbe) (fun _ _ h => h)
      have HTC := Lib.hid htc
      have HWD2 : Hid ((v1.setCell ⟨p, 1, none⟩ (.slice uA1 (i + (n - (i + 1))) uc1)).drew = we) := (show _ = _ by rw [hv2]; exact hwe)
      have hod : we.ownsRow 0 23 1 (.slice (some ⟨b2, 0, none⟩) n c2) n (H.ds.map Prod.fst) := by have e := HME.out.od; rw [← HDL2.out]; exact e
      have K2 := Lib.hid hod
      have EE2 : Hid (we.cell? ⟨p, 2, none⟩ = some (.slice (some ⟨b2, 0, none⟩) n c2)) := (show _ = _ by have e := HME.out.c2; rw [← HDL2.out]; exact e)
      have hpd2 := HME.out.lt
      have hbd2 : b2 < we.heap.size := own_lt hod rfl
      clear hm2' hv2 hwe hbe htc hod
      refine wp_region_plan we.heap.size (.one [0, 2, 3, 4, 5, 6, 7, 9, 10, 11, 12, 13, 14, 15] 1 (.one [] 8 (.one [] 16 (.fin [17, 18])))) [19] (by kernel_rfl) (by kernel_rfl) (by kernel_rfl) (fun _ _ _ _ _ h => h) ?_
      rw [HWD2.out]
      have t1 : ∀ z : LaterB we.heap.size we, z.val.cell? ⟨p, 2, none⟩ = some (.slice (some ⟨b2, 0, none⟩) n c2) := fun z => (z.ext.cell (p := ⟨p, 2, none⟩) hpd2).trans (by have := EE2.out; exact this)
      refine plan_one (l := ?seg2bb) ?hseg2bb ?_
      case hseg2bb => simp only [pick, List.getElem?_toArray, List.getElem?_cons_succ, List.getElem?_cons_zero]; rfl
      repeat (go_big_quiet_step (fail))
      refine wpQuiet_nil ?_
      clear t1
      obtain ⟨x2, hx2⟩ : ∃ x2, we.alloc (.cells #[] 23) = x2 := ⟨_, rfl⟩
      have bx2 : Below we.heap.size we x2 := by rw [← hx2]; exact (Below.refl _ _).alloc (Nat.le_refl _) _
      have ownx2 : x2.ownsRow we.heap.size 23 1 (.slice (some ⟨we.heap.size, 0, none⟩) 0 0) 0 [] := by rw [← hx2]; exact World.ownsRow_lit we _ 0 (Nat.le_refl _) (by unfold maxLen; omega) rfl
      refine tail_val2 (some 24) (w1 := x2) (v := .slice (some ⟨we.heap.size, 0, none⟩) 0 0) rfl rfl rfl (by rw [← hx2]; exact bslice_run rfl rfl (run_none_s we)) bx2 ⟨we.heap.size, Nat.le_refl _, ?_⟩
      simp only [Act.put, List.setIfInBounds_toArray, List.set_cons_zero, List.set_cons_succ]
      refine plan_one (l := []) rfl ?_
      refine wpQuiet_nil ?_
      have s12 := ((own_part K2.out 0 i (by omega) ⟨b2, 0, none⟩ (.inr (by rw [Nat.zero_mul]))).cap (c' := c2)).below bx2 (fun a e => by cases e; exact hbd2)
      refine tail_app (some 31) (.tmp 24) (.tmp 30) 29 23 rfl rfl rfl rfl Tryz.underlying29 (.slice none 0 0) 1 24 sls_inf rfl (by decide) we.heap.size (.slice (some ⟨we.heap.size, 0, none⟩) 0 0) 0 [] rfl ownx2 (Nat.le_refl _) bx2.size (some ⟨b2, 0, none⟩) i c2 _ rfl ?l12bb s12 ?o12bb (by omega) (by omega) ?_
      case l12bb => have := K2.out.1; rw [List.length_take, List.length_drop]; omega
      case o12bb => exact fun u hu => (sl_one HH.out.sl) u (List.mem_of_mem_drop (List.mem_of_mem_take hu))
      intro y2 z2 owny2 bz2 _
      have bz22 := bx2.trans bz2
      refine ⟨we.heap.size, Nat.le_refl _, ?_⟩
      simp only [Act.put, List.setIfInBounds_toArray, List.set_cons_zero, List.set_cons_succ]
      refine plan_one (l := []) rfl ?_
      refine wpQuiet_nil ?_
      have s22 := ((own_part K2.out (i + 1) (n - (i + 1)) (by omega) ⟨b2, i + 1, none⟩ (.inr (by rw [Nat.mul_one]))).cap (c' := c2 - (i + 1))).below bz22 (fun a e => by cases e; exact hbd2)
      refine tail_app (some 39) (.tmp 31) (.tmp 38) 29 23 rfl rfl rfl rfl Tryz.underlying29 (.slice none 0 0) 1 24 sls_inf rfl (by decide) we.heap.size y2 (0 + i) _ rfl owny2 (Nat.le_refl _) bz22.size (some ⟨b2, i + 1, none⟩) (n - (i + 1)) (c2 - (i + 1)) _ rfl ?l22bb s22 ?o22bb (by omega) (by omega) ?_
      case l22bb => have := K2.out.1; rw [List.length_take, List.length_drop]; omega
      case o22bb => exact fun u hu => (sl_one HH.out.sl) u (List.mem_of_mem_drop (List.mem_of_mem_take hu))
      intro u2 v2 ownu2 bv2 _
      have bv22 := bz22.trans bv2
      rw [Nat.zero_add] at ownu2
      refine ⟨we.heap.size, Nat.le_refl _, ?_⟩
      simp only [Act.put, List.setIfInBounds_toArray, List.set_cons_zero, List.set_cons_succ]
      obtain ⟨uA2, uc2, rfl⟩ := own_sl ownu2
      have e2u : i + (n - (i + 1)) = (H.ds.take i ++ H.ds.drop (i + 1)).length := by have := HDL2.out; rw [List.length_append, List.length_take, List.length_drop]; omega
      have hrow2 : v2.ownsRow we.heap.size 23 1 (.slice uA2 (i + (n - (i + 1))) uc2) (H.ds.take i ++ H.ds.drop (i + 1)).length ((H.ds.take i ++ H.ds.drop (i + 1)).map Prod.fst) := by
        rw [← e2u, List.map_append, List.map_take, List.map_drop]
        have e := ownu2
        rw [Nat.zero_mul, List.drop_zero, List.nil_append, Nat.mul_one, Nat.mul_one, Nat.mul_one, List.take_of_length_le (i := n - (i + 1)) (by have := K2.out.1; rw [List.length_drop]; omega)] at e
        exact e
      have HM2 := Lib.hid (HME.out.below bv22)
      have hm3 := HM2.out.dset _ _ (own_base hrow2 (Nat.zero_le _)) (fun d hd => HH.out.sl d (by rcases List.mem_append.1 hd with h | h; exact List.mem_of_mem_take h; exact List.mem_of_mem_drop h))
      have hto : HT F w p (H.drop i) (v2.setCell ⟨p, 2, none⟩ (.slice uA2 (i + (n - (i + 1))) uc2)) := by
        refine ⟨_, ⟨_, _, _, _, hm3⟩, ?_, fun k hk => ?_⟩
        · exact (HTC.out.trans (Tch.of_below (S := F) bv22) (fun _ _ h => h)).trans (Tch.set v2 ⟨p, 2, none⟩ _ HH.out.fp) (fun _ _ h => h)
        · have hs1 := HSZ.out
          rcases hk with (hk | hk) | hk
          · exact .inl hk
          · exact .inr (by have := (HL1.out k hk).1; omega)
          · exact .inr (by have := (hrow2.lt k hk).1; have := HTC.out.size; omega)
      have HTO := Lib.hid hto
      clear e2u s12 s22 owny2 ownx2 ownu2 bx2 bz2 bv2 hx2 hrow2 hm3 hto bz22 bv22
      have q2 := HM2.out.c2
      have f2 := HM2.out.thaw 2
      have hp2 := HM2.out.lt
      refine plan_fin (l := ?la2bb) (t := ?tl2bb) ?hla2bb ?htl2bb ?_
      case hla2bb => simp only [pick, List.getElem?_toArray, List.getElem?_cons_succ, List.getElem?_cons_zero]; rfl
      case htl2bb => simp only [pick, List.getElem?_toArray, List.getElem?_cons_succ, List.getElem?_cons_zero]; rfl
      repeat (go_big_quiet_step (fail))
      refine wpQuiet_nil ?_
      go_wp2
      go_end0
      exact ⟨rfl, HTO.out⟩
end
end Go.Proofs.YtbemaoncakcnjaaGreat
