/- Texts of mine, joined: Ref9c, Ref9d, Ref10a, Ref10b. -/
import Derived.Test.YtbemaoncakcnjaaK3

/- The contracts of the document's own lists: Put, all ways. -/
namespace Go.Proofs.Ytbemaoncakcnjaa
open Go.RowKit

/-- What Put, and Take, and Set tell. -/
def SlB (S : Nat → Prop) (n : Nat) (out : List UInt8) (ok : Bool) (w : World) (e : Ending) (w' : World) : Prop :=
  ∃ A' c', e = .returned (.tuple #[.slice A' n c', .bool ok]) ∧ Rd w' w'.heap.size A' n out ∧ n ≤ c' ∧ KO S A' c' ∧ Below w.heap.size w w'

section
variable (w : World)

set_option maxRecDepth 100000 in
set_option maxHeartbeats 2000000 in
theorem rput_1 (S : Nat → Prop) (_hS : ∀ k, w.heap.size ≤ k → S k) (A : Option Addr) (ca : Nat) (bs : List UInt8) (n : Nat) (hn : bs.length = n) (hr : Rd w w.heap.size A n bs) (hlc : n ≤ ca) (hA0 : KO S A ca) (hl : n ≤ 100000) (o : Int) (ho : -9223372036854775808 ≤ o ∧ o ≤ 9223372036854775807) (k : Int) (hk : freeI bs o = k) (hk0 : k < 0) :
    Calls Try.prog 58 #[.slice A n ca, .int .i64 o] w fun e w' => SlB S n bs false w e w' := by
  have hF := rfree_any w A ca w.heap.size bs (by rw [hn]; exact hr) (by omega) (by omega) o ho k hk
  rw [hn] at hF
  have HF := Lib.hid hF
  have HR := Lib.hid hr
  have s1 : decide (k < 0) = true := decide_eq_true hk0
  clear hF hk hr hn
  go_enter Try.func58, Try.ntmps58
  go_wp2_with fail
  with_reducible refine HF.out.mono ?_
  rintro e w1 ⟨rfl, hb⟩
  have HB := Lib.hid hb
  clear hb
  go_wp2
  go_ret2
  exact ⟨A, ca, rfl, (HR.out.below HB.out).more HB.out.size, hlc, hA0, HB.out⟩

set_option maxRecDepth 100000 in
set_option maxHeartbeats 2000000 in
theorem rput_2 (S : Nat → Prop) (_hS : ∀ k, w.heap.size ≤ k → S k) (A : Option Addr) (ca : Nat) (bs : List UInt8) (n : Nat) (hn : bs.length = n) (hr : Rd w w.heap.size A n bs) (hlc : n ≤ ca) (hA0 : KO S A ca) (hl : n ≤ 100000) (p c f : Nat) (hp : p ≤ 9223372036854775807) (hc : c < 22) (hk : freeI bs (p : Int) = (c : Int)) (hf : wordN bs (8 + 8 * c) = f) (m : Bool) (hm : memberB bs f (c : Int) = m) (h184 : 184 ≤ n) (hno : f = p) :
    Calls Try.prog 58 #[.slice A n ca, .int .i64 (p : Int)] w fun e w' => SlB S n bs false w e w' := by
  have hpb := hp
  have hfl : f < 18446744073709551616 := by rw [← hf]; exact wordN_lt _ _
  have hF := rfree_any w A ca w.heap.size bs (by rw [hn]; exact hr) (by omega) (by omega) (p : Int) (by omega) (c : Int) hk
  rw [hn] at hF
  have HF := Lib.hid hF
  have HNM := fun W (hb : Below w.heap.size w W) => rnum_any W A ca w.heap.size bs (by rw [hn]; exact hr.below hb) (by omega) (by omega) (8 + 8 * (c : Int)) (by omega) f (by rw [← hf, ← numO_at bs (8 + 8 * c) (by omega)]; rfl)
  rw [hn] at HNM
  have HNM := Lib.hid HNM
  have HMB := fun W (hb : Below w.heap.size w W) => rmember_any W A ca w.heap.size bs (by rw [hn]; exact hr.below hb) (by omega) (by omega) f hfl (c : Int) m hm
  rw [hn] at HMB
  have HMB := Lib.hid HMB
  have HR := Lib.hid hr
  have HA0 := Lib.hid hA0
  have s1 : decide ((c : Int) < 0) = false := decide_eq_false (by omega)
  subst hno
  have s2 : ((f : Int) == (f : Int)) = true := by simp
  clear hF hk hr hf hm hA0 hn
  go_enter Try.func58, Try.ntmps58
  go_wp2_with fail
  with_reducible refine HF.out.mono ?_
  rintro e w1 ⟨rfl, hb⟩
  have HB := Lib.hid hb
  clear hb
  go_wp2_with fail
  refine (HNM.out w1 HB.out).mono ?_
  rintro e w2 ⟨rfl, rfl⟩
  go_wp2_with fail
  refine (HMB.out w1 HB.out).mono ?_
  rintro e w0 ⟨rfl, hb⟩
  have B0 := Lib.hid (HB.out.trans (hb.mono HB.out.size))
  clear hb HB
  go_wp2
  go_ret2
  exact ⟨A, ca, rfl, (HR.out.below B0.out).more B0.out.size, hlc, HA0.out, B0.out⟩

set_option maxRecDepth 100000 in
set_option maxHeartbeats 2000000 in
theorem rput_3 (S : Nat → Prop) (_hS : ∀ k, w.heap.size ≤ k → S k) (A : Option Addr) (ca : Nat) (bs : List UInt8) (n : Nat) (hn : bs.length = n) (hr : Rd w w.heap.size A n bs) (hlc : n ≤ ca) (hA0 : KO S A ca) (hl : n ≤ 100000) (p c f : Nat) (hp : p ≤ 9223372036854775807) (hc : c < 22) (hk : freeI bs (p : Int) = (c : Int)) (hf : wordN bs (8 + 8 * c) = f) (hm : memberB bs f (c : Int) = false) (h184 : 184 ≤ n) (hno : f ≠ p) (hno2 : f ≠ 0) :
    Calls Try.prog 58 #[.slice A n ca, .int .i64 (p : Int)] w fun e w' => SlB S n bs false w e w' := by
  have hpb := hp
  have hfl : f < 18446744073709551616 := by rw [← hf]; exact wordN_lt _ _
  have hF := rfree_any w A ca w.heap.size bs (by rw [hn]; exact hr) (by omega) (by omega) (p : Int) (by omega) (c : Int) hk
  rw [hn] at hF
  have HF := Lib.hid hF
  have HNM := fun W (hb : Below w.heap.size w W) => rnum_any W A ca w.heap.size bs (by rw [hn]; exact hr.below hb) (by omega) (by omega) (8 + 8 * (c : Int)) (by omega) f (by rw [← hf, ← numO_at bs (8 + 8 * c) (by omega)]; rfl)
  rw [hn] at HNM
  have HNM := Lib.hid HNM
  have HMB := fun W (hb : Below w.heap.size w W) => rmember_any W A ca w.heap.size bs (by rw [hn]; exact hr.below hb) (by omega) (by omega) f hfl (c : Int) false hm
  rw [hn] at HMB
  have HMB := Lib.hid HMB
  have HR := Lib.hid hr
  have HA0 := Lib.hid hA0
  have s1 : decide ((c : Int) < 0) = false := decide_eq_false (by omega)
  have s2 : ((f : Int) == (p : Int)) = false := by rw [beq_eq_false_iff_ne]; omega
  have s3 : ((f : Int) != 0) = true := by rw [bne_iff_ne]; omega
  clear hF hk hr hf hm hA0 hn
  go_enter Try.func58, Try.ntmps58
  go_wp2_with fail
  with_reducible refine HF.out.mono ?_
  rintro e w1 ⟨rfl, hb⟩
  have HB := Lib.hid hb
  clear hb
  go_wp2_with fail
  refine (HNM.out w1 HB.out).mono ?_
  rintro e w2 ⟨rfl, rfl⟩
  go_wp2_with fail
  refine (HMB.out w1 HB.out).mono ?_
  rintro e w0 ⟨rfl, hb⟩
  have B0 := Lib.hid (HB.out.trans (hb.mono HB.out.size))
  clear hb HB
  go_wp2
  go_ret2
  exact ⟨A, ca, rfl, (HR.out.below B0.out).more B0.out.size, hlc, HA0.out, B0.out⟩

set_option maxRecDepth 100000 in
set_option maxHeartbeats 2000000 in
theorem rput_4 (S : Nat → Prop) (hS : ∀ k, w.heap.size ≤ k → S k) (A : Option Addr) (ca : Nat) (bs : List UInt8) (n : Nat) (hn : bs.length = n) (hr : Rd w w.heap.size A n bs) (hlc : n ≤ ca) (hA0 : KO S A ca) (hl : n ≤ 100000) (p c : Nat) (hc : c < 22) (hk : freeI bs (p : Int) = (c : Int)) (hf : wordN bs (8 + 8 * c) = 0) (m : Bool) (hm : memberB bs 0 (c : Int) = m) (h184 : 184 ≤ p) (hp : p + 32 ≤ n) :
    Calls Try.prog 58 #[.slice A n ca, .int .i64 (p : Int)] w fun e w' => SlB S n (markB (lyN (lyN (lyN bs (p + 8) 0) (p + 16) 0) (8 + 8 * c) p) c) true w e w' := by
  have hp : p ≤ 9223372036854775807 ∧ p + 32 ≤ n := ⟨by omega, hp⟩
  obtain ⟨hpb, hp⟩ := hp
  have hfl : 0 < 18446744073709551616 := by rw [← hf]; exact wordN_lt _ _
  have hF := rfree_any w A ca w.heap.size bs (by rw [hn]; exact hr) (by omega) (by omega) (p : Int) (by omega) (c : Int) hk
  rw [hn] at hF
  have HF := Lib.hid hF
  have HNM := fun W (hb : Below w.heap.size w W) => rnum_any W A ca w.heap.size bs (by rw [hn]; exact hr.below hb) (by omega) (by omega) (8 + 8 * (c : Int)) (by omega) 0 (by rw [← hf, ← numO_at bs (8 + 8 * c) (by omega)]; rfl)
  rw [hn] at HNM
  have HNM := Lib.hid HNM
  have HMB := fun W (hb : Below w.heap.size w W) => rmember_any W A ca w.heap.size bs (by rw [hn]; exact hr.below hb) (by omega) (by omega) 0 hfl (c : Int) m hm
  rw [hn] at HMB
  have HMB := Lib.hid HMB
  have HR := Lib.hid hr
  have HA0 := Lib.hid hA0
  have s1 : decide ((c : Int) < 0) = false := decide_eq_false (by omega)
  have s2 : ((0 : Int) == (p : Int)) = false := by rw [beq_eq_false_iff_ne]; omega
  clear hF hk hr hf hm hA0
  go_enter Try.func58, Try.ntmps58
  go_wp2_with fail
  with_reducible refine HF.out.mono ?_
  rintro e w1 ⟨rfl, hb⟩
  have HB := Lib.hid hb
  clear hb
  go_wp2_with fail
  refine (HNM.out w1 HB.out).mono ?_
  rintro e w2 ⟨rfl, rfl⟩
  go_wp2_with fail
  refine (HMB.out w1 HB.out).mono ?_
  rintro e w0 ⟨rfl, hb⟩
  have B0 := Lib.hid (HB.out.trans (hb.mono HB.out.size))
  clear hb HB
  have R0 := Lib.hid ((HR.out.below B0.out).more B0.out.size)
  obtain ⟨A0, hA0_⟩ : ∃ A0, A = A0 := ⟨_, rfl⟩
  obtain ⟨c0, hc0_⟩ : ∃ c0, ca = c0 := ⟨_, rfl⟩
  obtain ⟨b0, hb0_⟩ : ∃ b0, bs = b0 := ⟨_, rfl⟩
  subst hA0_ hc0_ hb0_
  have hb0 := hn
  have N0 := Lib.hid HA0.out
  clear HR HA0 hn HF HNM HMB
  have HL1 := rlay_sl w0 S (fun k h => hS k (Nat.le_trans B0.out.size h)) A ca w0.heap.size bs n hb0 R0.out (Nat.le_refl _) N0.out hl ((p : Int) + 8) 0 (by omega) (p + 8) (by omega) (by omega)
  have HL1 := Lib.hid HL1
  go_wp2_with fail
  refine HL1.out.mono ?_
  rintro e w1 ⟨A1, c1, rfl, r, hlc1, hn1, hbl1⟩
  obtain ⟨b1, hb1_⟩ : ∃ b, lyN bs (p + 8) 0 = b := ⟨_, rfl⟩
  rw [hb1_] at r
  have hb1 : b1.length = n := by rw [← hb1_, lyN_length _ _ _ (by omega)]; exact hb0
  have R1 := Lib.hid r
  have N1 := Lib.hid hn1
  have B1 := Lib.hid (B0.out.trans (hbl1.mono B0.out.size))
  have E1 := Lib.hid hb1_
  clear r hn1 hbl1 hb1_ HL1
  have HL2 := rlay_sl w1 S (fun k h => hS k (Nat.le_trans B1.out.size h)) A1 c1 w1.heap.size b1 n hb1 R1.out (Nat.le_refl _) N1.out hl ((p : Int) + 16) 0 (by omega) (p + 16) (by omega) (by omega)
  have HL2 := Lib.hid HL2
  go_wp2_with fail
  refine HL2.out.mono ?_
  rintro e w2 ⟨A2, c2, rfl, r, hlc2, hn2, hbl2⟩
  obtain ⟨b2, hb2_⟩ : ∃ b, lyN b1 (p + 16) 0 = b := ⟨_, rfl⟩
  rw [hb2_] at r
  have hb2 : b2.length = n := by rw [← hb2_, lyN_length _ _ _ (by omega)]; exact hb1
  have R2 := Lib.hid r
  have N2 := Lib.hid hn2
  have B2 := Lib.hid (B1.out.trans (hbl2.mono B1.out.size))
  have E2 := Lib.hid hb2_
  clear r hn2 hbl2 hb2_ HL2
  have HL3 := rlay_sl w2 S (fun k h => hS k (Nat.le_trans B2.out.size h)) A2 c2 w2.heap.size b2 n hb2 R2.out (Nat.le_refl _) N2.out hl (8 + 8 * (c : Int)) p (by omega) (8 + 8 * c) (by omega) (by omega)
  have HL3 := Lib.hid HL3
  go_wp2_with fail
  refine HL3.out.mono ?_
  rintro e w3 ⟨A3, c3, rfl, r, hlc3, hn3, hbl3⟩
  obtain ⟨b3, hb3_⟩ : ∃ b, lyN b2 (8 + 8 * c) p = b := ⟨_, rfl⟩
  rw [hb3_] at r
  have hb3 : b3.length = n := by rw [← hb3_, lyN_length _ _ _ (by omega)]; exact hb2
  have R3 := Lib.hid r
  have N3 := Lib.hid hn3
  have B3 := Lib.hid (B2.out.trans (hbl3.mono B2.out.size))
  have E3 := Lib.hid hb3_
  clear r hn3 hbl3 hb3_ HL3
  have HMK := Lib.hid (rmark_any w3 S (fun k h => hS k (Nat.le_trans B3.out.size h)) A3 c3 b3 n hb3 R3.out hlc3 N3.out hl (by omega) c hc)
  go_wp2_with fail
  with_reducible refine HMK.out.mono ?_
  rintro e w9 ⟨A9, c9, rfl, r, hlc9, hn9, hbl⟩
  have R9 := Lib.hid r
  have N9 := Lib.hid hn9
  have B9 := Lib.hid (B3.out.trans (hbl.mono B3.out.size))
  clear r hn9 hbl HMK
  go_wp2
  go_ret2
  refine ⟨A9, c9, rfl, ?_, hlc9, N9.out, B9.out⟩
  rw [E1.out, E2.out, E3.out]
  exact R9.out

set_option maxRecDepth 100000 in
set_option maxHeartbeats 2000000 in
theorem rput_5 (S : Nat → Prop) (hS : ∀ k, w.heap.size ≤ k → S k) (A : Option Addr) (ca : Nat) (bs : List UInt8) (n : Nat) (hn : bs.length = n) (hr : Rd w w.heap.size A n bs) (hlc : n ≤ ca) (hA0 : KO S A ca) (hl : n ≤ 100000) (p c f : Nat) (hc : c < 22) (hk : freeI bs (p : Int) = (c : Int)) (hf : wordN bs (8 + 8 * c) = f) (hm : memberB bs f (c : Int) = true) (h184 : 184 ≤ p) (hp : p + 32 ≤ n) (hno : f ≠ p) (hf1 : 184 ≤ f) (hf2 : f + 32 ≤ n) :
    Calls Try.prog 58 #[.slice A n ca, .int .i64 (p : Int)] w fun e w' => SlB S n (markB (lyN (lyN (lyN (lyN bs (p + 8) f) (p + 16) 0) (f + 16) p) (8 + 8 * c) p) c) true w e w' := by
  have hp : p ≤ 9223372036854775807 ∧ p + 32 ≤ n := ⟨by omega, hp⟩
  obtain ⟨hpb, hp⟩ := hp
  have hfl : f < 18446744073709551616 := by rw [← hf]; exact wordN_lt _ _
  have hF := rfree_any w A ca w.heap.size bs (by rw [hn]; exact hr) (by omega) (by omega) (p : Int) (by omega) (c : Int) hk
  rw [hn] at hF
  have HF := Lib.hid hF
  have HNM := fun W (hb : Below w.heap.size w W) => rnum_any W A ca w.heap.size bs (by rw [hn]; exact hr.below hb) (by omega) (by omega) (8 + 8 * (c : Int)) (by omega) f (by rw [← hf, ← numO_at bs (8 + 8 * c) (by omega)]; rfl)
  rw [hn] at HNM
  have HNM := Lib.hid HNM
  have HMB := fun W (hb : Below w.heap.size w W) => rmember_any W A ca w.heap.size bs (by rw [hn]; exact hr.below hb) (by omega) (by omega) f hfl (c : Int) true hm
  rw [hn] at HMB
  have HMB := Lib.hid HMB
  have HR := Lib.hid hr
  have HA0 := Lib.hid hA0
  have s1 : decide ((c : Int) < 0) = false := decide_eq_false (by omega)
  have s2 : ((f : Int) == (p : Int)) = false := by rw [beq_eq_false_iff_ne]; omega
  have s3 : ((f : Int) != 0) = true := by rw [bne_iff_ne]; omega
  clear hF hk hr hf hm hA0
  go_enter Try.func58, Try.ntmps58
  go_wp2_with fail
  with_reducible refine HF.out.mono ?_
  rintro e w1 ⟨rfl, hb⟩
  have HB := Lib.hid hb
  clear hb
  go_wp2_with fail
  refine (HNM.out w1 HB.out).mono ?_
  rintro e w2 ⟨rfl, rfl⟩
  go_wp2_with fail
  refine (HMB.out w1 HB.out).mono ?_
  rintro e w0 ⟨rfl, hb⟩
  have B0 := Lib.hid (HB.out.trans (hb.mono HB.out.size))
  clear hb HB
  have R0 := Lib.hid ((HR.out.below B0.out).more B0.out.size)
  obtain ⟨A0, hA0_⟩ : ∃ A0, A = A0 := ⟨_, rfl⟩
  obtain ⟨c0, hc0_⟩ : ∃ c0, ca = c0 := ⟨_, rfl⟩
  obtain ⟨b0, hb0_⟩ : ∃ b0, bs = b0 := ⟨_, rfl⟩
  subst hA0_ hc0_ hb0_
  have hb0 := hn
  have N0 := Lib.hid HA0.out
  clear HR HA0 hn HF HNM HMB
  have HL1 := rlay_sl w0 S (fun k h => hS k (Nat.le_trans B0.out.size h)) A ca w0.heap.size bs n hb0 R0.out (Nat.le_refl _) N0.out hl ((p : Int) + 8) f (by omega) (p + 8) (by omega) (by omega)
  have HL1 := Lib.hid HL1
  go_wp2_with fail
  refine HL1.out.mono ?_
  rintro e w1 ⟨A1, c1, rfl, r, hlc1, hn1, hbl1⟩
  obtain ⟨b1, hb1_⟩ : ∃ b, lyN bs (p + 8) f = b := ⟨_, rfl⟩
  rw [hb1_] at r
  have hb1 : b1.length = n := by rw [← hb1_, lyN_length _ _ _ (by omega)]; exact hb0
  have R1 := Lib.hid r
  have N1 := Lib.hid hn1
  have B1 := Lib.hid (B0.out.trans (hbl1.mono B0.out.size))
  have E1 := Lib.hid hb1_
  clear r hn1 hbl1 hb1_ HL1
  have HL2 := rlay_sl w1 S (fun k h => hS k (Nat.le_trans B1.out.size h)) A1 c1 w1.heap.size b1 n hb1 R1.out (Nat.le_refl _) N1.out hl ((p : Int) + 16) 0 (by omega) (p + 16) (by omega) (by omega)
  have HL2 := Lib.hid HL2
  go_wp2_with fail
  refine HL2.out.mono ?_
  rintro e w2 ⟨A2, c2, rfl, r, hlc2, hn2, hbl2⟩
  obtain ⟨b2, hb2_⟩ : ∃ b, lyN b1 (p + 16) 0 = b := ⟨_, rfl⟩
  rw [hb2_] at r
  have hb2 : b2.length = n := by rw [← hb2_, lyN_length _ _ _ (by omega)]; exact hb1
  have R2 := Lib.hid r
  have N2 := Lib.hid hn2
  have B2 := Lib.hid (B1.out.trans (hbl2.mono B1.out.size))
  have E2 := Lib.hid hb2_
  clear r hn2 hbl2 hb2_ HL2
  have HL3 := rlay_sl w2 S (fun k h => hS k (Nat.le_trans B2.out.size h)) A2 c2 w2.heap.size b2 n hb2 R2.out (Nat.le_refl _) N2.out hl ((f : Int) + 16) p (by omega) (f + 16) (by omega) (by omega)
  have HL3 := Lib.hid HL3
  go_wp2_with fail
  refine HL3.out.mono ?_
  rintro e w3 ⟨A3, c3, rfl, r, hlc3, hn3, hbl3⟩
  obtain ⟨b3, hb3_⟩ : ∃ b, lyN b2 (f + 16) p = b := ⟨_, rfl⟩
  rw [hb3_] at r
  have hb3 : b3.length = n := by rw [← hb3_, lyN_length _ _ _ (by omega)]; exact hb2
  have R3 := Lib.hid r
  have N3 := Lib.hid hn3
  have B3 := Lib.hid (B2.out.trans (hbl3.mono B2.out.size))
  have E3 := Lib.hid hb3_
  clear r hn3 hbl3 hb3_ HL3
  have HL4 := rlay_sl w3 S (fun k h => hS k (Nat.le_trans B3.out.size h)) A3 c3 w3.heap.size b3 n hb3 R3.out (Nat.le_refl _) N3.out hl (8 + 8 * (c : Int)) p (by omega) (8 + 8 * c) (by omega) (by omega)
  have HL4 := Lib.hid HL4
  go_wp2_with fail
  refine HL4.out.mono ?_
  rintro e w4 ⟨A4, c4, rfl, r, hlc4, hn4, hbl4⟩
  obtain ⟨b4, hb4_⟩ : ∃ b, lyN b3 (8 + 8 * c) p = b := ⟨_, rfl⟩
  rw [hb4_] at r
  have hb4 : b4.length = n := by rw [← hb4_, lyN_length _ _ _ (by omega)]; exact hb3
  have R4 := Lib.hid r
  have N4 := Lib.hid hn4
  have B4 := Lib.hid (B3.out.trans (hbl4.mono B3.out.size))
  have E4 := Lib.hid hb4_
  clear r hn4 hbl4 hb4_ HL4
  have HMK := Lib.hid (rmark_any w4 S (fun k h => hS k (Nat.le_trans B4.out.size h)) A4 c4 b4 n hb4 R4.out hlc4 N4.out hl (by omega) c hc)
  go_wp2_with fail
  with_reducible refine HMK.out.mono ?_
  rintro e w9 ⟨A9, c9, rfl, r, hlc9, hn9, hbl⟩
  have R9 := Lib.hid r
  have N9 := Lib.hid hn9
  have B9 := Lib.hid (B4.out.trans (hbl.mono B4.out.size))
  clear r hn9 hbl HMK
  go_wp2
  go_ret2
  refine ⟨A9, c9, rfl, ?_, hlc9, N9.out, B9.out⟩
  rw [E1.out, E2.out, E3.out, E4.out]
  exact R9.out

theorem rput_any (S : Nat → Prop) (hS : ∀ k, w.heap.size ≤ k → S k) (A : Option Addr) (ca : Nat) (bs : List UInt8) (n : Nat) (hn : bs.length = n) (hr : Rd w w.heap.size A n bs) (hlc : n ≤ ca) (hA0 : KO S A ca) (hl : n ≤ 100000) (o : Int) (ho : -9223372036854775808 ≤ o ∧ o ≤ 9223372036854775807) (x : Option (List UInt8)) (hx : putB bs o = x) :
    Calls Try.prog 58 #[.slice A n ca, .int .i64 o] w fun e w' => SlB S n (x.getD bs) x.isSome w e w' := by
  subst hx
  by_cases hk0 : freeI bs o < 0
  · have e : putB bs o = none := by unfold putB; rw [if_pos hk0]
    rw [e]
    exact rput_1 w S hS A ca bs n hn hr hlc hA0 hl o ho _ rfl hk0
  · obtain ⟨x, hx, hu, hcx⟩ : ∃ x, getB bs o = some x ∧ x.used = false ∧ classI (x.size : Int) = freeI bs o := by
      unfold freeI at hk0 ⊢
      cases hg : getB bs o with
      | none => rw [hg] at hk0; exact absurd (by decide) hk0
      | some x =>
        rw [hg] at hk0
        cases hxu : x.used with
        | true => simp [hxu] at hk0
        | false => exact ⟨x, rfl, hxu, by simp [hxu]⟩
    obtain ⟨q1, q2, _, q3, q4, _⟩ := getB_some hx
    have q5 := (isSz_iff _).1 q4
    obtain ⟨c, hc, hc22⟩ := class_nat q4
    obtain ⟨p, hp⟩ : ∃ p, x.off = p := ⟨_, rfl⟩
    rw [hp] at q1 q2 q3
    subst q1
    rw [hc] at hcx
    have hk := hcx.symm
    obtain ⟨f, hf⟩ : ∃ f, wordN bs (8 + 8 * c) = f := ⟨_, rfl⟩
    obtain ⟨m, hm⟩ : ∃ m, memberB bs f (c : Int) = m := ⟨_, rfl⟩
    have hput : putB bs (p : Int) = if (f : Int) = (p : Int) ∨ (f ≠ 0 ∧ m = false) then none else some (markB (lyN (if f ≠ 0 then lyN (lyN (lyN bs (p + 8) f) (p + 16) 0) (f + 16) p else lyN (lyN bs (p + 8) f) (p + 16) 0) (8 + 8 * c) p) c) := by
      unfold putB
      rw [if_neg hk0, hk]
      simp only [Int.toNat_natCast, hf, hm]
    rw [hput]
    by_cases h1 : f = p
    · rw [if_pos (.inl (by omega))]
      exact rput_2 w S hS A ca bs n hn hr hlc hA0 hl p c f (by omega) hc22 hk hf m hm (by omega) h1
    · by_cases h2 : f = 0
      · subst h2
        rw [if_neg (by omega), if_neg (by omega)]
        exact rput_4 w S hS A ca bs n hn hr hlc hA0 hl p c hc22 hk hf m hm (by omega) (by omega)
      · cases m with
        | false =>
          rw [if_pos (.inr ⟨h2, rfl⟩)]
          exact rput_3 w S hS A ca bs n hn hr hlc hA0 hl p c f (by omega) hc22 hk hf hm (by omega) h1 h2
        | true =>
          rw [if_neg (by rintro (e | ⟨_, e⟩); omega; cases e), if_pos h2]
          have hfm : 184 ≤ f ∧ f + 32 ≤ n := by
            unfold memberB at hm
            cases hg : getB bs (f : Int) with
            | none => rw [hg] at hm; simp at hm
            | some y =>
              obtain ⟨r1, r2, _, r3, r4, _⟩ := getB_some hg
              have := (isSz_iff _).1 r4
              omega
          exact rput_5 w S hS A ca bs n hn hr hlc hA0 hl p c f hc22 hk hf hm (by omega) (by omega) h1 hfm.1 hfm.2
end
end Go.Proofs.Ytbemaoncakcnjaa

/- The contracts of the document's own lists: All. -/
namespace Go.Proofs.Ytbemaoncakcnjaa
open Go.RowKit

theorem int_inf : (Try.prog.info? 3).map (fun i => (i.zero, i.size, i.bytes)) = some (some (.int .i64 0), 1, 8) := by kernel_rfl
def iV (n : Nat) : Value := .int .i64 (n : Int)
section
variable (w : World)
end
end Go.Proofs.Ytbemaoncakcnjaa

/- The contracts of the document's own fits: Find. -/
namespace Go.Proofs.Ytbemaoncakcnjaa
open Go.RowKit

theorem allF_member (bs : List UInt8) (c : Nat) : ∀ (k last p : Nat) (l : List Nat), allF bs c k last p = some l → ∀ o ∈ l, memberB bs o (c : Int) = true
  | 0, last, p, l, h, o, ho => by
    unfold allF at h
    split at h
    · injection h with h; subst h; cases ho
    · cases h
  | k + 1, last, p, l, h, o, ho => by
    unfold allF at h
    by_cases hp : p = 0
    · rw [if_pos hp] at h; injection h with h; subst h; cases ho
    · rw [if_neg hp] at h
      dsimp only at h
      by_cases hm : memberB bs p (c : Int) = true ∧ wordN bs (p + 16) = last
      · rw [if_pos hm] at h
        cases hr : allF bs c k p (wordN bs (p + 8)) with
        | none => rw [hr] at h; cases h
        | some l' =>
          rw [hr] at h
          injection h with h
          subst h
          rcases List.mem_cons.1 ho with e | ho
          · rw [e]; exact hm.1
          · exact allF_member bs c k p _ l' hr o ho
      · rw [if_neg hm] at h; cases h
theorem allB_member {bs : List UInt8} {c : Nat} {l : List Nat} (h : allB bs c = some l) : ∀ o ∈ l, memberB bs o (c : Int) = true := by
  unfold allB at h
  split at h
  · cases h
  · split at h
    · cases h
    · exact allF_member bs c _ _ _ l h
theorem memberB_get {bs : List UInt8} {p : Nat} {c : Int} (h : memberB bs p c = true) : p ≤ 20000 ∧ ∃ x, getB bs (p : Int) = some x := by
  unfold memberB at h
  cases hg : getB bs (p : Int) with
  | none => rw [hg] at h; simp at h
  | some x => rw [hg] at h; simp at h; exact ⟨h.1, x, rfl⟩
section
variable (w : World)
end
end Go.Proofs.Ytbemaoncakcnjaa

/- The contracts of the document's own fits: Rebuild. -/
namespace Go.Proofs.Ytbemaoncakcnjaa
open Go.RowKit

theorem walkF_mem (bs : List UInt8) : ∀ (k o : Nat) (l : List Bk), walkF bs k o = some l → ∀ x ∈ l, getB bs (x.off : Int) = some x
  | 0, _, _, h, _, _ => by cases h
  | k + 1, o, l, h, x, hx => by
    unfold walkF at h
    by_cases hlt : o < bs.length
    · rw [if_pos hlt] at h
      cases hg : getB bs (o : Int) with
      | none => rw [hg] at h; cases h
      | some y =>
        rw [hg] at h
        dsimp only at h
        cases hr : walkF bs k (o + y.size) with
        | none => rw [hr] at h; cases h
        | some r =>
          rw [hr] at h
          injection h with h
          subst h
          rcases List.mem_cons.1 hx with e | hx
          · subst e
            have := (getB_some hg).1
            rw [← this, hg]
          · exact walkF_mem bs k _ r hr x hx
    · rw [if_neg hlt] at h
      injection h with h
      subst h
      cases hx
theorem walkB_mem {bs : List UInt8} {l : List Bk} (h : walkB bs = some l) : 184 ≤ bs.length ∧ ∀ x ∈ l, getB bs (x.off : Int) = some x := by
  unfold walkB at h
  split at h
  · cases h
  · exact ⟨by omega, walkF_mem bs _ _ l h⟩
theorem own_bks {w : World} {base n : Nat} {t : TypeId} {A : Option Addr} {c : Nat} {l : List Bk} (h : w.ownsRow base t 3 (.slice A n c) n (flatK l)) (hn : n = l.length) : BkRd w w.heap.size A l := fun h0 => by
  rcases h.2 with ⟨_, h0'⟩ | ⟨g, _, _, h', _⟩
  · omega
  · injection h' with e
    subst e
    refine ⟨g, 0, rfl, (h.lt g rfl).2, fun j x hx => ?_⟩
    obtain ⟨q0, q1, q2⟩ := flatK_get l j x hx
    have hj : j < l.length := by
      rcases Nat.lt_or_ge j l.length with h | h
      · exact h
      · rw [List.getElem?_eq_none h] at hx; cases hx
    refine ⟨?_, ?_, ?_⟩
    · rw [Nat.zero_add, h.cellAt (j * 3) (by omega), q0]
    · rw [Nat.zero_add, h.cellAt (j * 3 + 1) (by omega), q1]
    · rw [Nat.zero_add, h.cellAt (j * 3 + 2) (by omega), q2]

/-- make([]byte, n): a block of n bytes that are 0. -/
theorem run_mk0 (n : Nat) (hn : n ≤ 1000000) (z : List UInt8) (hz : List.replicate n (0 : UInt8) = z) (W : World) : (Instr.makeSlice 44 (.int .i64 (n : Int)) (.int .i64 (n : Int))).run Try.prog W = .ok (.slice (some ⟨W.heap.size, 0, none⟩) n n) (W.alloc (.cells (rowB z) 5)) := by
  have := run_make_row' (P := Try.prog) 44 5 (.int .u8 0) 1 Try.underlying44 u8_infb rfl .i64 .i64 n (by omega) (by omega) W
  rw [rowB_zeros, hz] at this
  exact this
theorem mk_run {P : Program} {o : Oper} {a : Act} {w w1 : World} {v L C : Value} {t : TypeId} {l c : Operand} (ho : o.op = .makeSlice t l c) (hl : a.eval l = L) (hc : a.eval c = C)
    (hr : (Instr.makeSlice t L C).run P w = .ok v w1) : (execOp a.eval o).run P w = .ok (.value v) w1 := by
  unfold execOp
  simp only [ho]
  rw [hl, hc, Sem.run_bind, hr]
  rfl

/-- What a slice is from a place on. -/
theorem rd_from {w : World} {B b o ca k : Nat} {bs : List UInt8} (hb : b < B) (hc : ∀ (j : Nat) (u : UInt8), bs[j]? = some u → w.cell? ⟨b, o + j, none⟩ = some (.int .u8 (u.toNat : Int))) (hlc : bs.length ≤ ca) :
    Rd w B (if ca = k then some ⟨b, o, none⟩ else some ⟨b, o + k, none⟩) (bs.length - k) (bs.drop k) := by
  refine ⟨by simp, fun h => ?_⟩
  rw [if_neg (by omega)]
  refine ⟨b, o + k, rfl, hb, fun j u hu => ?_⟩
  rw [List.getElem?_drop] at hu
  have := hc (k + j) u hu
  rw [Nat.add_assoc]
  exact this

section
variable (w : World)
set_option maxRecDepth 100000 in
set_option maxHeartbeats 2000000 in
theorem rrebuild_any (S : Nat → Prop) (hS : ∀ k, w.heap.size ≤ k → S k) (A : Option Addr) (ca : Nat) (bs : List UInt8) (n : Nat) (hn : bs.length = n) (hr : Rd w w.heap.size A n bs) (hlc : n ≤ ca) (hA0 : KO S A ca) (hl : n ≤ 100000) (x : Option (List UInt8)) (hx : rebuildB bs = x) :
    Calls Try.prog 35 #[.slice A n ca] w fun e w' => SlB S n (x.getD bs) x.isSome w e w' := by
  subst hn
  cases hw : walkB bs with
  | none =>
    obtain rfl : none = x := by rw [← hx]; unfold rebuildB; rw [hw]; rfl
    have hW := rwalkB_any w A ca w.heap.size bs hr (Nat.le_refl _) hlc hl none hw
    dsimp only [BksTold, Option.isSome, Option.getD] at hW
    have HW := Lib.hid hW
    have HR := Lib.hid hr
    clear hW hr hw hx
    go_enter Try.func35, Try.ntmps35
    go_wp2_with fail
    with_reducible refine HW.out.mono ?_
    rintro e w1 ⟨A', c', rfl, _, hb⟩
    go_wp2
    go_ret2
    exact ⟨A, ca, rfl, (HR.out.below hb).more hb.size, hlc, hA0, hb⟩
  | some l =>
    obtain rfl : some (l.foldl rebF (List.replicate 184 0 ++ bs.drop 184)) = x := by rw [← hx]; unfold rebuildB; rw [hw]; rfl
    obtain ⟨h184, hmem⟩ := walkB_mem hw
    have hW := rwalkB_any w A ca w.heap.size bs hr (Nat.le_refl _) hlc hl _ hw
    dsimp only [BksTold, Option.isSome, Option.getD] at hW ⊢
    have HW := Lib.hid hW
    have HR := Lib.hid hr
    have HMEM := Lib.hid hmem
    obtain ⟨ba, oa, rfl, hba, hca⟩ := hr.2 (by omega)
    obtain ⟨z, hz⟩ : ∃ z, List.replicate 184 (0 : UInt8) = z := ⟨_, rfl⟩
    have hzl : z.length = 184 := by rw [← hz]; simp
    have HMK : ∀ W : World, Hid ((Instr.makeSlice 44 (.int .i64 184) (.int .i64 184)).run Try.prog W = .ok (.slice (some ⟨W.heap.size, 0, none⟩) 184 184) (W.alloc (.cells (rowB z) 5))) := run_mk0 184 (by omega) z hz
    rw [hz]
    have HZL := Lib.hid hzl
    have HCA := Lib.hid hca
    obtain ⟨B0, hB0⟩ : ∃ B0, w.heap.size = B0 := ⟨_, rfl⟩
    have HB0 := Lib.hid hB0
    clear hW hr hw hx hmem hz hzl hca hB0
    go_enter Try.func35, Try.ntmps35
    go_wp2_with fail
    with_reducible refine HW.out.mono ?_
    rintro e w1 ⟨A4, c4, rfl, ho4, hb1⟩
    have HO4 := Lib.hid ho4
    have HB1 := Lib.hid hb1
    have hcl : l.length ≤ c4 ∧ c4 ≤ 9223372036854775807 := by
      rcases ho4.2 with ⟨h', h0⟩ | ⟨_, _, _, h', _, _, h1, h2, _⟩
      · injection h' with _ _ e; rw [h0, e]; omega
      · injection h' with _ _ e; unfold maxLen at h2; omega
    clear ho4 hb1 HW
    go_wp2_with fail
    refine wp_region_tail w1.heap.size [([1, 2], 0)] [] [3, 4] (by kernel_rfl) (by kernel_rfl) (by kernel_rfl) (fun _ _ _ _ _ h => h) ?_
    obtain ⟨w2, hw2⟩ : ∃ w2, w1.drew = w2 := ⟨_, rfl⟩
    have hz2 : w1.heap.size = w2.heap.size := by rw [← hw2]; rfl
    have HB2 : Hid (Below B0 w w2) := by rw [← hw2, ← HB0.out]; exact HB1.out.drew
    have HO2 : Hid (w2.ownsRow B0 65 3 (.slice A4 l.length c4) l.length (flatK l)) := by rw [← hw2, ← HB0.out]; exact HO4.out
    rw [hw2, hz2]
    clear hw2 hz2 HB1 HO4
    refine tail_cons (l := ?seg1) ?hseg1 ?_
    case hseg1 => simp only [pick, List.getElem?_toArray, List.getElem?_cons_succ, List.getElem?_cons_zero]; rfl
    repeat (go_big_quiet_step (fail))
    refine wpQuiet_nil ?_
    obtain ⟨A18, hA18⟩ : ∃ A18 : Option Addr, (if ca = 184 then some (⟨ba, oa, none⟩ : Addr) else some ⟨ba, oa + 184, none⟩) = A18 := ⟨_, rfl⟩
    have HA18 : Hid (A18 = none → ca - 184 = 0) := fun h => by rw [← hA18] at h; split at h <;> cases h
    have HR18 : Hid (Rd w2 B0 A18 (bs.length - 184) (bs.drop 184)) := by
      rw [← hA18]
      exact rd_from (by rw [← HB0.out]; exact hba) (fun j u hu => (HB2.out.cell (p := ⟨ba, _, none⟩) (by rw [← HB0.out]; exact hba)).trans (HCA.out j u hu)) hlc
    rw [hA18]
    clear hA18
    obtain ⟨w3, hw3⟩ : ∃ w3, w2.alloc (.cells (rowB z) 5) = w3 := ⟨_, rfl⟩
    have hb3 : Below w2.heap.size w2 w3 := by rw [← hw3]; exact (Below.refl _ _).alloc (Nat.le_refl _) _
    have hB2 : B0 ≤ w2.heap.size := by have := HB2.out.size; have := HB0.out; omega
    have hm3 := (HMK w2).out
    have own3 : w3.ownsRow w2.heap.size 5 1 (.slice (some ⟨w2.heap.size, 0, none⟩) 184 184) 184 (z.map bv) := by
      rw [← hw3]
      exact World.ownsRow_lit w2 (rowB z) 184 (Nat.le_refl _) (by unfold maxLen; omega) (by simp [rowB, HZL.out])
    rw [hw3] at hm3
    have HB3 := Lib.hid (HB2.out.trans (hb3.mono hB2))
    have HR3 := Lib.hid ((HR18.out.below (hb3.mono hB2)))
    have HO3 := Lib.hid (own_below' HO2.out hb3)
    have HO2K := HO2
    have hsz3 := hb3.size
    refine tail_val2 (w1 := w3) (v := .slice (some ⟨w2.heap.size, 0, none⟩) 184 184) (some 16) rfl rfl rfl ?rv1 hb3 ?_
    case rv1 => exact mk_run rfl rfl rfl hm3
    refine ⟨w2.heap.size, Nat.le_refl _, ?_⟩
    refine tail_last (l := ?la) (t := ?tl) ?hla ?htl ?_
    case hla => rfl
    case htl => simp only [pick, List.getElem?_toArray, List.getElem?_cons_succ, List.getElem?_cons_zero]; rfl
    refine wpQuiet_nil ?_
    simp only [Act.put, List.setIfInBounds_toArray, List.set_cons_zero, List.set_cons_succ]
    have OWN3 := Lib.hid own3
    have HB23 := Lib.hid hb3
    have hbase : w2.heap.size ≤ w3.heap.size := hsz3
    clear hm3 hw3 hb3 own3 HMK HCA HO2 HR18 HB2
    go_wp2_with (first
      | (at_builtin; go_must (refine append_bytes rfl (.tmp 16) (.tmp 18) 44 5 rfl Try.underlying44 u8_infb w2.heap.size (.slice (some ⟨w2.heap.size, 0, none⟩) 184 184) 184 z rfl OWN3.out B0 A18 (bs.length - 184) (ca - 184) (bs.drop 184) rfl HR3.out HA18.out (by omega) hbase ?_); intro x4 w4 own4 hb4 gr4; have OWN4 := Lib.hid own4; have HB4 := Lib.hid hb4; clear own4 hb4 gr4)
      | fail)
    have e184 : 184 + (bs.length - 184) = bs.length := by omega
    have own4 := OWN4.out
    rw [e184] at own4
    obtain ⟨g6, c6, rfl, hc6, hr6⟩ := own_rd own4 (by omega)
    have HG6 : Hid (B0 ≤ g6) := Nat.le_trans hB2 (OWN4.out.lt g6 rfl).1
    have HR6 := Lib.hid hr6
    have HB0' : Hid (Below B0 w w4) := HB3.out.trans (HB4.out.mono hB2)
    have HO4 : Hid (w4.ownsRow B0 65 3 (.slice A4 l.length c4) l.length (flatK l)) := by
      have h24 : Below w2.heap.size w2 w4 := HB23.out.trans HB4.out
      exact own_below' HO2K.out h24
    clear own4 OWN4 OWN3 HB3 HB4 HR3 HO3 hr6
    go_loopw [6, 7] (fun q t wr => ∃ (j : Nat) (A6 : Option Addr) (c6 : Nat) (out : List UInt8), q = .slice A6 bs.length c6 ∧ t = .int .i64 (j : Int) ∧ j ≤ l.length ∧ out = (l.take j).foldl rebF (z ++ bs.drop 184) ∧ Rd wr wr.heap.size A6 bs.length out ∧ bs.length ≤ c6 ∧ KO S A6 c6 ∧ wr.ownsRow B0 65 3 (.slice A4 l.length c4) l.length (flatK l) ∧ Below B0 w wr) (fun _ t _ => l.length - (intOf t).toNat)
    case atStart => exact ⟨0, _, c6, _, rfl, rfl, Nat.zero_le _, rfl, HR6.out, hc6, ⟨(fun h => by cases h), fun a e => by cases e; exact hS _ (show w.heap.size ≤ g6 by have := HG6.out; have := HB0.out; omega)⟩, HO4.out, HB0'.out⟩
    case round =>
      obtain ⟨j, A6, c6, out, rfl, rfl, hj, hout, hr6, hc6, hA6, ho4, hb⟩ := hrel
      have hBw : B0 ≤ wr.heap.size := by have := hb.size; have := HB0.out; omega
      by_cases hlt : j < l.length
      · obtain ⟨x, hx⟩ : ∃ x, l[j]? = some x := ⟨l[j], List.getElem?_eq_getElem hlt⟩
        obtain ⟨b, o, rfl, hbb, hc⟩ := own_bks ho4 rfl (by omega)
        obtain ⟨p0, p1, p2⟩ := hc j x hx
        have hg := HMEM.out x (List.mem_of_getElem? hx)
        obtain ⟨_, _, _, q3, _⟩ := getB_some hg
        have hnext : (l.take (j + 1)).foldl rebF (z ++ bs.drop 184) = rebF out x := by
          rw [List.take_add_one, hx, List.foldl_append, ← hout]; rfl
        obtain ⟨xo, xs, xu⟩ := x
        dsimp only at p0 p1 p2 q3
        have HN := Lib.hid hnext
        have HO := Lib.hid ho4
        have HRB := Lib.hid hb
        have HR6' := Lib.hid hr6
        cases xu with
        | true =>
          have HN' : Hid ((l.take (j + 1)).foldl rebF (z ++ bs.drop 184) = out) := hnext
          clear hc hx hg hnext ho4 hb hr6 hout HN
          go_wp2
          go_roundw
          case rel => exact ⟨j + 1, A6, c6, out, rfl, by go_num, by omega, HN'.out.symm, HR6'.out, hc6, hA6, HO.out, HRB.out⟩
          case measure => simp only [intOf]; omega
        | false =>
          obtain ⟨y, hy⟩ : ∃ y, putB out (xo : Int) = y := ⟨_, rfl⟩
          have HN' : Hid ((l.take (j + 1)).foldl rebF (z ++ bs.drop 184) = y.getD out) := by
            rw [hnext, ← hy]; rfl
          have HP := Lib.hid (rput_any wr S (fun k h => hS k (Nat.le_trans (by have := hb.size; have := HB0.out; omega) h)) A6 c6 out bs.length hr6.1 hr6 hc6 hA6 hl (xo : Int) (by omega) y hy)
          clear hc hx hg hnext ho4 hb hr6 hout HN hy
          go_wp2_with fail
          with_reducible refine HP.out.mono ?_
          rintro e w5 ⟨A', c', rfl, hr', hn', hA', hb5⟩
          have HO5 := Lib.hid (own_below' HO.out hb5)
          have HRB5 := Lib.hid (HRB.out.trans (hb5.mono hBw))
          have HR5 := Lib.hid hr'
          clear hb5 hr' HP HO HRB
          go_wp2
          go_roundw
          case rel => exact ⟨j + 1, A', c', _, rfl, by go_num, by omega, HN'.out.symm, HR5.out, hn', hA', HO5.out, HRB5.out⟩
          case measure => simp only [intOf]; omega
      · obtain hjl : j = l.length := by omega
        have hfin : out = l.foldl rebF (z ++ bs.drop 184) := by rw [hout, hjl, List.take_length]
        have HF := Lib.hid hfin
        have HRB := Lib.hid hb
        have HR6' := Lib.hid hr6
        clear hfin hout hb hr6 ho4
        go_wp2
        go_ret2
        exact ⟨A6, c6, rfl, by rw [← HF.out]; exact HR6'.out, hc6, hA6, by rw [HB0.out]; exact HRB.out⟩
end
end Go.Proofs.Ytbemaoncakcnjaa
