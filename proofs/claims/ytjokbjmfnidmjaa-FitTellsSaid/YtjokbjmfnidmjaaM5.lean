/- Texts of mine, joined: Ref9b, Ref9c, Ref9d, Ref10a, Ref10b, Law09b. -/
import Derived.Test.YtjokbjmfnidmjaaM4

/- The contracts of the document's own lists: mark, Put. -/
namespace Go.Proofs.Ytjokbjmfnidmjaa
open Go.RowKit

/-- A slice that is nil with nothing behind it, or lies in a block of S. -/
def KO (S : Nat → Prop) (A : Option Addr) (c : Nat) : Prop := (A = none → c = 0) ∧ ∀ a, A = some a → S a.block
/-- A slice of bytes that reads so. -/
def SlR (out : List UInt8) (w : World) (e : Ending) (w' : World) : Prop :=
  ∃ A' c', e = .returned (.slice A' out.length c') ∧ Rd w' w'.heap.size A' out.length out ∧ out.length ≤ c' ∧ (A' = none → c' = 0) ∧ Below w.heap.size w w'

section
variable (w : World)
theorem rlay_sl (S : Nat → Prop) (hS : ∀ k, w.heap.size ≤ k → S k) (A : Option Addr) (c B : Nat) (bs : List UInt8) (n : Nat) (hn : bs.length = n) (hr : Rd w B A n bs) (hB : B ≤ w.heap.size) (hA0 : KO S A c) (hl : n ≤ 100000) (o : Int) (v : Nat) (hv : v < 18446744073709551616) (p : Nat) (hp : o = (p : Int)) (ho : p + 8 ≤ n) :
    Calls Try.prog 19 #[.slice A n c, .int .i64 o, .int .u64 (v : Int)] w fun e w' => ∃ A' c', e = .returned (.slice A' n c') ∧ Rd w' w'.heap.size A' n (lyN bs p v) ∧ n ≤ c' ∧ KO S A' c' ∧ Below w.heap.size w w' := by
  subst hn hp
  refine (rlay_any w A c B bs hr hB hA0.1 hl p v hv ho).mono ?_
  rintro e w' ⟨A', c', rfl, hown, hb⟩
  rw [layN_eq, lyN_length _ _ _ ho] at hown ⊢
  obtain ⟨h1, h2, h3⟩ := own_facts hown
  exact ⟨A', c', rfl, h1, h2, ⟨h3, fun a e => hS _ (hown.lt a.block (by rw [e]; rfl)).1⟩, hb⟩

set_option maxRecDepth 100000 in
set_option maxHeartbeats 1000000 in
theorem rmark_any (S : Nat → Prop) (hS : ∀ k, w.heap.size ≤ k → S k) (A : Option Addr) (ca : Nat) (bs : List UInt8) (n : Nat) (hn : bs.length = n) (hr : Rd w w.heap.size A n bs) (hlc : n ≤ ca) (hA0 : KO S A ca) (hl : n ≤ 100000) (hl2 : 184 ≤ n) (c : Nat) (hc : c < 22) :
    Calls Try.prog 63 #[.slice A n ca, .int .i64 (c : Int)] w fun e w' => ∃ A' c', e = .returned (.slice A' n c') ∧ Rd w' w'.heap.size A' n (markB bs c) ∧ n ≤ c' ∧ KO S A' c' ∧ Below w.heap.size w w' := by
  subst hn
  obtain ⟨v, hv⟩ : ∃ v, wordN bs 0 = v := ⟨_, rfl⟩
  obtain ⟨f, hf⟩ : ∃ f, wordN bs (8 + 8 * c) = f := ⟨_, rfl⟩
  obtain ⟨b, hb⟩ : ∃ b, bitN v c = b := ⟨_, rfl⟩
  have hvl : v < 18446744073709551616 := by rw [← hv]; exact wordN_lt _ _
  have hfl : f < 18446744073709551616 := by rw [← hf]; exact wordN_lt _ _
  have n0 := rnum_any w A ca w.heap.size bs hr hlc (by omega) 0 (by omega) v (by rw [← hv]; exact numO_at bs 0 (by omega))
  have n1 := rnum_any w A ca w.heap.size bs hr hlc (by omega) (8 + 8 * (c : Int)) (by omega) f (by rw [← hf, ← numO_at bs (8 + 8 * c) (by omega)]; rfl)
  have bt := rbit_any w v c hvl (by omega) b hb
  have HN0 := Lib.hid n0
  have HN1 := Lib.hid n1
  have HBT := Lib.hid bt
  have HO := Lib.hid (rone_any w c (by omega) (2 ^ c) rfl)
  have hmk : markB bs c = if b = true ∧ f = 0 then lyN bs 0 (v - 2 ^ c) else if b = false ∧ f ≠ 0 then lyN bs 0 (v + 2 ^ c) else bs := by
    unfold markB
    rw [hv, hf, hb]
  have hle : b = true → 2 ^ c ≤ v := fun e => bitN_ge v c (by rw [hb, e])
  have hlt : b = false → v + 2 ^ c < 18446744073709551616 := fun e => bitN_lt v c (by omega) hvl (by rw [hb, e])
  obtain ⟨P, hP⟩ : ∃ P, 2 ^ c = P := ⟨_, rfl⟩
  have hPl : P ≤ 4194304 := by rw [← hP]; exact (Nat.pow_le_pow_right (by omega) (by omega) : 2 ^ c ≤ 2 ^ 22)
  rw [hP] at HO hmk hle hlt
  have HM := Lib.hid hmk
  have HR := Lib.hid hr
  have HA0 := Lib.hid hA0
  clear n0 n1 bt hv hf hb hmk hr hA0 hP
  by_cases f0 : f = 0
  · subst f0
    cases b with
    | true =>
      have hle := hle rfl
      have HL := rlay_sl w S hS A ca w.heap.size bs bs.length rfl HR.out (Nat.le_refl _) HA0.out hl 0 (v - P) (by omega) 0 rfl (by omega)
      rw [show ((v - P : Nat) : Int) = (v : Int) - (P : Int) by omega] at HL
      have HL := Lib.hid HL
      have e : markB bs c = lyN bs 0 (v - P) := by rw [HM.out]; rfl
      have HE := Lib.hid e
      clear e HM
      go_enter Try.func63, Try.ntmps63
      go_wp2_with fail
      with_reducible refine HN0.out.mono ?_
      rintro e w1 ⟨rfl, rfl⟩
      go_wp2_with fail
      with_reducible refine HBT.out.mono ?_
      rintro e w1 ⟨rfl, rfl⟩
      go_wp2_with fail
      with_reducible refine HN1.out.mono ?_
      rintro e w1 ⟨rfl, rfl⟩
      go_wp2_with fail
      with_reducible refine HO.out.mono ?_
      rintro e w1 ⟨rfl, rfl⟩
      go_wp2_with fail
      refine HL.out.mono ?_
      rintro e w1 ⟨A', c', rfl, h1, h2, h3, h4⟩
      have H1 := Lib.hid h1
      have H4 := Lib.hid h4
      clear h1 h4
      go_wp2
      go_ret
      exact ⟨A', c', rfl, by rw [HE.out]; exact H1.out, h2, h3, H4.out⟩
    | false =>
      have e : markB bs c = bs := by rw [HM.out]; rfl
      have HE := Lib.hid e
      clear e HM
      go_enter Try.func63, Try.ntmps63
      go_wp2_with fail
      with_reducible refine HN0.out.mono ?_
      rintro e w1 ⟨rfl, rfl⟩
      go_wp2_with fail
      with_reducible refine HBT.out.mono ?_
      rintro e w1 ⟨rfl, rfl⟩
      go_wp2_with fail
      with_reducible refine HN1.out.mono ?_
      rintro e w1 ⟨rfl, rfl⟩
      go_wp2
      go_ret
      exact ⟨A, ca, rfl, by rw [HE.out]; exact HR.out, hlc, HA0.out, Below.refl _ _⟩
  · have hq : ((f : Int) != 0) = true := by rw [bne_iff_ne]; omega
    cases b with
    | true =>
      have e : markB bs c = bs := by rw [HM.out, if_neg (fun h => f0 h.2), if_neg (fun h => by cases h.1)]
      have HE := Lib.hid e
      clear e HM f0
      go_enter Try.func63, Try.ntmps63
      go_wp2_with fail
      with_reducible refine HN0.out.mono ?_
      rintro e w1 ⟨rfl, rfl⟩
      go_wp2_with fail
      with_reducible refine HBT.out.mono ?_
      rintro e w1 ⟨rfl, rfl⟩
      go_wp2_with fail
      with_reducible refine HN1.out.mono ?_
      rintro e w1 ⟨rfl, rfl⟩
      go_wp2
      go_ret
      exact ⟨A, ca, rfl, by rw [HE.out]; exact HR.out, hlc, HA0.out, Below.refl _ _⟩
    | false =>
      have hlt := hlt rfl
      have HL := rlay_sl w S hS A ca w.heap.size bs bs.length rfl HR.out (Nat.le_refl _) HA0.out hl 0 (v + P) (by omega) 0 rfl (by omega)
      rw [Int.natCast_add] at HL
      have HL := Lib.hid HL
      have e : markB bs c = lyN bs 0 (v + P) := by rw [HM.out, if_neg (fun h => by cases h.1), if_pos ⟨rfl, f0⟩]
      have HE := Lib.hid e
      clear e HM f0
      go_enter Try.func63, Try.ntmps63
      go_wp2_with fail
      with_reducible refine HN0.out.mono ?_
      rintro e w1 ⟨rfl, rfl⟩
      go_wp2_with fail
      with_reducible refine HBT.out.mono ?_
      rintro e w1 ⟨rfl, rfl⟩
      go_wp2_with fail
      with_reducible refine HN1.out.mono ?_
      rintro e w1 ⟨rfl, rfl⟩
      go_wp2_with fail
      with_reducible refine HO.out.mono ?_
      rintro e w1 ⟨rfl, rfl⟩
      go_wp2_with fail
      refine HL.out.mono ?_
      rintro e w1 ⟨A', c', rfl, h1, h2, h3, h4⟩
      have H1 := Lib.hid h1
      have H4 := Lib.hid h4
      clear h1 h4
      go_wp2
      go_ret
      exact ⟨A', c', rfl, by rw [HE.out]; exact H1.out, h2, h3, H4.out⟩
end
end Go.Proofs.Ytjokbjmfnidmjaa

/- The contracts of the document's own lists: Put, all ways. -/
namespace Go.Proofs.Ytjokbjmfnidmjaa
open Go.RowKit

/-- What Put, and Take, and Set tell. -/
def SlB (S : Nat → Prop) (n : Nat) (out : List UInt8) (ok : Bool) (w : World) (e : Ending) (w' : World) : Prop :=
  ∃ A' c', e = .returned (.tuple #[.slice A' n c', .bool ok]) ∧ Rd w' w'.heap.size A' n out ∧ n ≤ c' ∧ KO S A' c' ∧ Below w.heap.size w w'

section
variable (w : World)

set_option maxRecDepth 100000 in
set_option maxHeartbeats 2000000 in
theorem rput_1 (S : Nat → Prop) (_hS : ∀ k, w.heap.size ≤ k → S k) (A : Option Addr) (ca : Nat) (bs : List UInt8) (n : Nat) (hn : bs.length = n) (hr : Rd w w.heap.size A n bs) (hlc : n ≤ ca) (hA0 : KO S A ca) (hl : n ≤ 100000) (o : Int) (ho : -9223372036854775808 ≤ o ∧ o ≤ 9223372036854775807) (k : Int) (hk : freeI bs o = k) (hk0 : k < 0) :
    Calls Try.prog 33 #[.slice A n ca, .int .i64 o] w fun e w' => SlB S n bs false w e w' := by
  have hF := rfree_any w A ca w.heap.size bs (by rw [hn]; exact hr) (by omega) (by omega) o ho k hk
  rw [hn] at hF
  have HF := Lib.hid hF
  have HR := Lib.hid hr
  have s1 : decide (k < 0) = true := decide_eq_true hk0
  clear hF hk hr hn
  go_enter Try.func33, Try.ntmps33
  go_wp2_with fail
  with_reducible refine HF.out.mono ?_
  rintro e w1 ⟨rfl, hb⟩
  have HB := Lib.hid hb
  clear hb
  go_wp2
  go_ret2
  exact ⟨A, ca, rfl, (HR.out.below HB.out).more HB.out.size, hlc, hA0, HB.out⟩

set_option maxRecDepth 100000 in
set_option maxHeartbeats 2000000 in
theorem rput_2 (S : Nat → Prop) (_hS : ∀ k, w.heap.size ≤ k → S k) (A : Option Addr) (ca : Nat) (bs : List UInt8) (n : Nat) (hn : bs.length = n) (hr : Rd w w.heap.size A n bs) (hlc : n ≤ ca) (hA0 : KO S A ca) (hl : n ≤ 100000) (p c f : Nat) (hp : p ≤ 9223372036854775807) (hc : c < 22) (hk : freeI bs (p : Int) = (c : Int)) (hf : wordN bs (8 + 8 * c) = f) (m : Bool) (hm : memberB bs f (c : Int) = m) (h184 : 184 ≤ n) (hno : f = p) :
    Calls Try.prog 33 #[.slice A n ca, .int .i64 (p : Int)] w fun e w' => SlB S n bs false w e w' := by
  have hpb := hp
  have hfl : f < 18446744073709551616 := by rw [← hf]; exact wordN_lt _ _
  have hF := rfree_any w A ca w.heap.size bs (by rw [hn]; exact hr) (by omega) (by omega) (p : Int) (by omega) (c : Int) hk
  rw [hn] at hF
  have HF := Lib.hid hF
  have HNM := fun W (hb : Below w.heap.size w W) => rnum_any W A ca w.heap.size bs (by rw [hn]; exact hr.below hb) (by omega) (by omega) (8 + 8 * (c : Int)) (by omega) f (by rw [← hf, ← numO_at bs (8 + 8 * c) (by omega)]; rfl)
  rw [hn] at HNM
  have HNM := Lib.hid HNM
  have HMB := fun W (hb : Below w.heap.size w W) => rmember_any W A ca w.heap.size bs (by rw [hn]; exact hr.below hb) (by omega) (by omega) f hfl (c : Int) m hm
  rw [hn] at HMB
  have HMB := Lib.hid HMB
  have HR := Lib.hid hr
  have HA0 := Lib.hid hA0
  have s1 : decide ((c : Int) < 0) = false := decide_eq_false (by omega)
  subst hno
  have s2 : ((f : Int) == (f : Int)) = true := by simp
  clear hF hk hr hf hm hA0 hn
  go_enter Try.func33, Try.ntmps33
  go_wp2_with fail
  with_reducible refine HF.out.mono ?_
  rintro e w1 ⟨rfl, hb⟩
  have HB := Lib.hid hb
  clear hb
  go_wp2_with fail
  refine (HNM.out w1 HB.out).mono ?_
  rintro e w2 ⟨rfl, rfl⟩
  go_wp2_with fail
  refine (HMB.out w1 HB.out).mono ?_
  rintro e w0 ⟨rfl, hb⟩
  have B0 := Lib.hid (HB.out.trans (hb.mono HB.out.size))
  clear hb HB
  go_wp2
  go_ret2
  exact ⟨A, ca, rfl, (HR.out.below B0.out).more B0.out.size, hlc, HA0.out, B0.out⟩

set_option maxRecDepth 100000 in
set_option maxHeartbeats 2000000 in
theorem rput_3 (S : Nat → Prop) (_hS : ∀ k, w.heap.size ≤ k → S k) (A : Option Addr) (ca : Nat) (bs : List UInt8) (n : Nat) (hn : bs.length = n) (hr : Rd w w.heap.size A n bs) (hlc : n ≤ ca) (hA0 : KO S A ca) (hl : n ≤ 100000) (p c f : Nat) (hp : p ≤ 9223372036854775807) (hc : c < 22) (hk : freeI bs (p : Int) = (c : Int)) (hf : wordN bs (8 + 8 * c) = f) (hm : memberB bs f (c : Int) = false) (h184 : 184 ≤ n) (hno : f ≠ p) (hno2 : f ≠ 0) :
    Calls Try.prog 33 #[.slice A n ca, .int .i64 (p : Int)] w fun e w' => SlB S n bs false w e w' := by
  have hpb := hp
  have hfl : f < 18446744073709551616 := by rw [← hf]; exact wordN_lt _ _
  have hF := rfree_any w A ca w.heap.size bs (by rw [hn]; exact hr) (by omega) (by omega) (p : Int) (by omega) (c : Int) hk
  rw [hn] at hF
  have HF := Lib.hid hF
  have HNM := fun W (hb : Below w.heap.size w W) => rnum_any W A ca w.heap.size bs (by rw [hn]; exact hr.below hb) (by omega) (by omega) (8 + 8 * (c : Int)) (by omega) f (by rw [← hf, ← numO_at bs (8 + 8 * c) (by omega)]; rfl)
  rw [hn] at HNM
  have HNM := Lib.hid HNM
  have HMB := fun W (hb : Below w.heap.size w W) => rmember_any W A ca w.heap.size bs (by rw [hn]; exact hr.below hb) (by omega) (by omega) f hfl (c : Int) false hm
  rw [hn] at HMB
  have HMB := Lib.hid HMB
  have HR := Lib.hid hr
  have HA0 := Lib.hid hA0
  have s1 : decide ((c : Int) < 0) = false := decide_eq_false (by omega)
  have s2 : ((f : Int) == (p : Int)) = false := by rw [beq_eq_false_iff_ne]; omega
  have s3 : ((f : Int) != 0) = true := by rw [bne_iff_ne]; omega
  clear hF hk hr hf hm hA0 hn
  go_enter Try.func33, Try.ntmps33
  go_wp2_with fail
  with_reducible refine HF.out.mono ?_
  rintro e w1 ⟨rfl, hb⟩
  have HB := Lib.hid hb
  clear hb
  go_wp2_with fail
  refine (HNM.out w1 HB.out).mono ?_
  rintro e w2 ⟨rfl, rfl⟩
  go_wp2_with fail
  refine (HMB.out w1 HB.out).mono ?_
  rintro e w0 ⟨rfl, hb⟩
  have B0 := Lib.hid (HB.out.trans (hb.mono HB.out.size))
  clear hb HB
  go_wp2
  go_ret2
  exact ⟨A, ca, rfl, (HR.out.below B0.out).more B0.out.size, hlc, HA0.out, B0.out⟩

set_option maxRecDepth 100000 in
set_option maxHeartbeats 2000000 in
theorem rput_4 (S : Nat → Prop) (hS : ∀ k, w.heap.size ≤ k → S k) (A : Option Addr) (ca : Nat) (bs : List UInt8) (n : Nat) (hn : bs.length = n) (hr : Rd w w.heap.size A n bs) (hlc : n ≤ ca) (hA0 : KO S A ca) (hl : n ≤ 100000) (p c : Nat) (hc : c < 22) (hk : freeI bs (p : Int) = (c : Int)) (hf : wordN bs (8 + 8 * c) = 0) (m : Bool) (hm : memberB bs 0 (c : Int) = m) (h184 : 184 ≤ p) (hp : p + 32 ≤ n) :
    Calls Try.prog 33 #[.slice A n ca, .int .i64 (p : Int)] w fun e w' => SlB S n (markB (lyN (lyN (lyN bs (p + 8) 0) (p + 16) 0) (8 + 8 * c) p) c) true w e w' := by
  have hp : p ≤ 9223372036854775807 ∧ p + 32 ≤ n := ⟨by omega, hp⟩
  obtain ⟨hpb, hp⟩ := hp
  have hfl : 0 < 18446744073709551616 := by rw [← hf]; exact wordN_lt _ _
  have hF := rfree_any w A ca w.heap.size bs (by rw [hn]; exact hr) (by omega) (by omega) (p : Int) (by omega) (c : Int) hk
  rw [hn] at hF
  have HF := Lib.hid hF
  have HNM := fun W (hb : Below w.heap.size w W) => rnum_any W A ca w.heap.size bs (by rw [hn]; exact hr.below hb) (by omega) (by omega) (8 + 8 * (c : Int)) (by omega) 0 (by rw [← hf, ← numO_at bs (8 + 8 * c) (by omega)]; rfl)
  rw [hn] at HNM
  have HNM := Lib.hid HNM
  have HMB := fun W (hb : Below w.heap.size w W) => rmember_any W A ca w.heap.size bs (by rw [hn]; exact hr.below hb) (by omega) (by omega) 0 hfl (c : Int) m hm
  rw [hn] at HMB
  have HMB := Lib.hid HMB
  have HR := Lib.hid hr
  have HA0 := Lib.hid hA0
  have s1 : decide ((c : Int) < 0) = false := decide_eq_false (by omega)
  have s2 : ((0 : Int) == (p : Int)) = false := by rw [beq_eq_false_iff_ne]; omega
  clear hF hk hr hf hm hA0
  go_enter Try.func33, Try.ntmps33
  go_wp2_with fail
  with_reducible refine HF.out.mono ?_
  rintro e w1 ⟨rfl, hb⟩
  have HB := Lib.hid hb
  clear hb
  go_wp2_with fail
  refine (HNM.out w1 HB.out).mono ?_
  rintro e w2 ⟨rfl, rfl⟩
  go_wp2_with fail
  refine (HMB.out w1 HB.out).mono ?_
  rintro e w0 ⟨rfl, hb⟩
  have B0 := Lib.hid (HB.out.trans (hb.mono HB.out.size))
  clear hb HB
  have R0 := Lib.hid ((HR.out.below B0.out).more B0.out.size)
  obtain ⟨A0, hA0_⟩ : ∃ A0, A = A0 := ⟨_, rfl⟩
  obtain ⟨c0, hc0_⟩ : ∃ c0, ca = c0 := ⟨_, rfl⟩
  obtain ⟨b0, hb0_⟩ : ∃ b0, bs = b0 := ⟨_, rfl⟩
  subst hA0_ hc0_ hb0_
  have hb0 := hn
  have N0 := Lib.hid HA0.out
  clear HR HA0 hn HF HNM HMB
  have HL1 := rlay_sl w0 S (fun k h => hS k (Nat.le_trans B0.out.size h)) A ca w0.heap.size bs n hb0 R0.out (Nat.le_refl _) N0.out hl ((p : Int) + 8) 0 (by omega) (p + 8) (by omega) (by omega)
  have HL1 := Lib.hid HL1
  go_wp2_with fail
  refine HL1.out.mono ?_
  rintro e w1 ⟨A1, c1, rfl, r, hlc1, hn1, hbl1⟩
  obtain ⟨b1, hb1_⟩ : ∃ b, lyN bs (p + 8) 0 = b := ⟨_, rfl⟩
  rw [hb1_] at r
  have hb1 : b1.length = n := by rw [← hb1_, lyN_length _ _ _ (by omega)]; exact hb0
  have R1 := Lib.hid r
  have N1 := Lib.hid hn1
  have B1 := Lib.hid (B0.out.trans (hbl1.mono B0.out.size))
  have E1 := Lib.hid hb1_
  clear r hn1 hbl1 hb1_ HL1
  have HL2 := rlay_sl w1 S (fun k h => hS k (Nat.le_trans B1.out.size h)) A1 c1 w1.heap.size b1 n hb1 R1.out (Nat.le_refl _) N1.out hl ((p : Int) + 16) 0 (by omega) (p + 16) (by omega) (by omega)
  have HL2 := Lib.hid HL2
  go_wp2_with fail
  refine HL2.out.mono ?_
  rintro e w2 ⟨A2, c2, rfl, r, hlc2, hn2, hbl2⟩
  obtain ⟨b2, hb2_⟩ : ∃ b, lyN b1 (p + 16) 0 = b := ⟨_, rfl⟩
  rw [hb2_] at r
  have hb2 : b2.length = n := by rw [← hb2_, lyN_length _ _ _ (by omega)]; exact hb1
  have R2 := Lib.hid r
  have N2 := Lib.hid hn2
  have B2 := Lib.hid (B1.out.trans (hbl2.mono B1.out.size))
  have E2 := Lib.hid hb2_
  clear r hn2 hbl2 hb2_ HL2
  have HL3 := rlay_sl w2 S (fun k h => hS k (Nat.le_trans B2.out.size h)) A2 c2 w2.heap.size b2 n hb2 R2.out (Nat.le_refl _) N2.out hl (8 + 8 * (c : Int)) p (by omega) (8 + 8 * c) (by omega) (by omega)
  have HL3 := Lib.hid HL3
  go_wp2_with fail
  refine HL3.out.mono ?_
  rintro e w3 ⟨A3, c3, rfl, r, hlc3, hn3, hbl3⟩
  obtain ⟨b3, hb3_⟩ : ∃ b, lyN b2 (8 + 8 * c) p = b := ⟨_, rfl⟩
  rw [hb3_] at r
  have hb3 : b3.length = n := by rw [← hb3_, lyN_length _ _ _ (by omega)]; exact hb2
  have R3 := Lib.hid r
  have N3 := Lib.hid hn3
  have B3 := Lib.hid (B2.out.trans (hbl3.mono B2.out.size))
  have E3 := Lib.hid hb3_
  clear r hn3 hbl3 hb3_ HL3
  have HMK := Lib.hid (rmark_any w3 S (fun k h => hS k (Nat.le_trans B3.out.size h)) A3 c3 b3 n hb3 R3.out hlc3 N3.out hl (by omega) c hc)
  go_wp2_with fail
  with_reducible refine HMK.out.mono ?_
  rintro e w9 ⟨A9, c9, rfl, r, hlc9, hn9, hbl⟩
  have R9 := Lib.hid r
  have N9 := Lib.hid hn9
  have B9 := Lib.hid (B3.out.trans (hbl.mono B3.out.size))
  clear r hn9 hbl HMK
  go_wp2
  go_ret2
  refine ⟨A9, c9, rfl, ?_, hlc9, N9.out, B9.out⟩
  rw [E1.out, E2.out, E3.out]
  exact R9.out

set_option maxRecDepth 100000 in
set_option maxHeartbeats 2000000 in
theorem rput_5 (S : Nat → Prop) (hS : ∀ k, w.heap.size ≤ k → S k) (A : Option Addr) (ca : Nat) (bs : List UInt8) (n : Nat) (hn : bs.length = n) (hr : Rd w w.heap.size A n bs) (hlc : n ≤ ca) (hA0 : KO S A ca) (hl : n ≤ 100000) (p c f : Nat) (hc : c < 22) (hk : freeI bs (p : Int) = (c : Int)) (hf : wordN bs (8 + 8 * c) = f) (hm : memberB bs f (c : Int) = true) (h184 : 184 ≤ p) (hp : p + 32 ≤ n) (hno : f ≠ p) (hf1 : 184 ≤ f) (hf2 : f + 32 ≤ n) :
    Calls Try.prog 33 #[.slice A n ca, .int .i64 (p : Int)] w fun e w' => SlB S n (markB (lyN (lyN (lyN (lyN bs (p + 8) f) (p + 16) 0) (f + 16) p) (8 + 8 * c) p) c) true w e w' := by
  have hp : p ≤ 9223372036854775807 ∧ p + 32 ≤ n := ⟨by omega, hp⟩
  obtain ⟨hpb, hp⟩ := hp
  have hfl : f < 18446744073709551616 := by rw [← hf]; exact wordN_lt _ _
  have hF := rfree_any w A ca w.heap.size bs (by rw [hn]; exact hr) (by omega) (by omega) (p : Int) (by omega) (c : Int) hk
  rw [hn] at hF
  have HF := Lib.hid hF
  have HNM := fun W (hb : Below w.heap.size w W) => rnum_any W A ca w.heap.size bs (by rw [hn]; exact hr.below hb) (by omega) (by omega) (8 + 8 * (c : Int)) (by omega) f (by rw [← hf, ← numO_at bs (8 + 8 * c) (by omega)]; rfl)
  rw [hn] at HNM
  have HNM := Lib.hid HNM
  have HMB := fun W (hb : Below w.heap.size w W) => rmember_any W A ca w.heap.size bs (by rw [hn]; exact hr.below hb) (by omega) (by omega) f hfl (c : Int) true hm
  rw [hn] at HMB
  have HMB := Lib.hid HMB
  have HR := Lib.hid hr
  have HA0 := Lib.hid hA0
  have s1 : decide ((c : Int) < 0) = false := decide_eq_false (by omega)
  have s2 : ((f : Int) == (p : Int)) = false := by rw [beq_eq_false_iff_ne]; omega
  have s3 : ((f : Int) != 0) = true := by rw [bne_iff_ne]; omega
  clear hF hk hr hf hm hA0
  go_enter Try.func33, Try.ntmps33
  go_wp2_with fail
  with_reducible refine HF.out.mono ?_
  rintro e w1 ⟨rfl, hb⟩
  have HB := Lib.hid hb
  clear hb
  go_wp2_with fail
  refine (HNM.out w1 HB.out).mono ?_
  rintro e w2 ⟨rfl, rfl⟩
  go_wp2_with fail
  refine (HMB.out w1 HB.out).mono ?_
  rintro e w0 ⟨rfl, hb⟩
  have B0 := Lib.hid (HB.out.trans (hb.mono HB.out.size))
  clear hb HB
  have R0 := Lib.hid ((HR.out.below B0.out).more B0.out.size)
  obtain ⟨A0, hA0_⟩ : ∃ A0, A = A0 := ⟨_, rfl⟩
  obtain ⟨c0, hc0_⟩ : ∃ c0, ca = c0 := ⟨_, rfl⟩
  obtain ⟨b0, hb0_⟩ : ∃ b0, bs = b0 := ⟨_, rfl⟩
  subst hA0_ hc0_ hb0_
  have hb0 := hn
  have N0 := Lib.hid HA0.out
  clear HR HA0 hn HF HNM HMB
  have HL1 := rlay_sl w0 S (fun k h => hS k (Nat.le_trans B0.out.size h)) A ca w0.heap.size bs n hb0 R0.out (Nat.le_refl _) N0.out hl ((p : Int) + 8) f (by omega) (p + 8) (by omega) (by omega)
  have HL1 := Lib.hid HL1
  go_wp2_with fail
  refine HL1.out.mono ?_
  rintro e w1 ⟨A1, c1, rfl, r, hlc1, hn1, hbl1⟩
  obtain ⟨b1, hb1_⟩ : ∃ b, lyN bs (p + 8) f = b := ⟨_, rfl⟩
  rw [hb1_] at r
  have hb1 : b1.length = n := by rw [← hb1_, lyN_length _ _ _ (by omega)]; exact hb0
  have R1 := Lib.hid r
  have N1 := Lib.hid hn1
  have B1 := Lib.hid (B0.out.trans (hbl1.mono B0.out.size))
  have E1 := Lib.hid hb1_
  clear r hn1 hbl1 hb1_ HL1
  have HL2 := rlay_sl w1 S (fun k h => hS k (Nat.le_trans B1.out.size h)) A1 c1 w1.heap.size b1 n hb1 R1.out (Nat.le_refl _) N1.out hl ((p : Int) + 16) 0 (by omega) (p + 16) (by omega) (by omega)
  have HL2 := Lib.hid HL2
  go_wp2_with fail
  refine HL2.out.mono ?_
  rintro e w2 ⟨A2, c2, rfl, r, hlc2, hn2, hbl2⟩
  obtain ⟨b2, hb2_⟩ : ∃ b, lyN b1 (p + 16) 0 = b := ⟨_, rfl⟩
  rw [hb2_] at r
  have hb2 : b2.length = n := by rw [← hb2_, lyN_length _ _ _ (by omega)]; exact hb1
  have R2 := Lib.hid r
  have N2 := Lib.hid hn2
  have B2 := Lib.hid (B1.out.trans (hbl2.mono B1.out.size))
  have E2 := Lib.hid hb2_
  clear r hn2 hbl2 hb2_ HL2
  have HL3 := rlay_sl w2 S (fun k h => hS k (Nat.le_trans B2.out.size h)) A2 c2 w2.heap.size b2 n hb2 R2.out (Nat.le_refl _) N2.out hl ((f : Int) + 16) p (by omega) (f + 16) (by omega) (by omega)
  have HL3 := Lib.hid HL3
  go_wp2_with fail
  refine HL3.out.mono ?_
  rintro e w3 ⟨A3, c3, rfl, r, hlc3, hn3, hbl3⟩
  obtain ⟨b3, hb3_⟩ : ∃ b, lyN b2 (f + 16) p = b := ⟨_, rfl⟩
  rw [hb3_] at r
  have hb3 : b3.length = n := by rw [← hb3_, lyN_length _ _ _ (by omega)]; exact hb2
  have R3 := Lib.hid r
  have N3 := Lib.hid hn3
  have B3 := Lib.hid (B2.out.trans (hbl3.mono B2.out.size))
  have E3 := Lib.hid hb3_
  clear r hn3 hbl3 hb3_ HL3
  have HL4 := rlay_sl w3 S (fun k h => hS k (Nat.le_trans B3.out.size h)) A3 c3 w3.heap.size b3 n hb3 R3.out (Nat.le_refl _) N3.out hl (8 + 8 * (c : Int)) p (by omega) (8 + 8 * c) (by omega) (by omega)
  have HL4 := Lib.hid HL4
  go_wp2_with fail
  refine HL4.out.mono ?_
  rintro e w4 ⟨A4, c4, rfl, r, hlc4, hn4, hbl4⟩
  obtain ⟨b4, hb4_⟩ : ∃ b, lyN b3 (8 + 8 * c) p = b := ⟨_, rfl⟩
  rw [hb4_] at r
  have hb4 : b4.length = n := by rw [← hb4_, lyN_length _ _ _ (by omega)]; exact hb3
  have R4 := Lib.hid r
  have N4 := Lib.hid hn4
  have B4 := Lib.hid (B3.out.trans (hbl4.mono B3.out.size))
  have E4 := Lib.hid hb4_
  clear r hn4 hbl4 hb4_ HL4
  have HMK := Lib.hid (rmark_any w4 S (fun k h => hS k (Nat.le_trans B4.out.size h)) A4 c4 b4 n hb4 R4.out hlc4 N4.out hl (by omega) c hc)
  go_wp2_with fail
  with_reducible refine HMK.out.mono ?_
  rintro e w9 ⟨A9, c9, rfl, r, hlc9, hn9, hbl⟩
  have R9 := Lib.hid r
  have N9 := Lib.hid hn9
  have B9 := Lib.hid (B4.out.trans (hbl.mono B4.out.size))
  clear r hn9 hbl HMK
  go_wp2
  go_ret2
  refine ⟨A9, c9, rfl, ?_, hlc9, N9.out, B9.out⟩
  rw [E1.out, E2.out, E3.out, E4.out]
  exact R9.out

theorem rput_any (S : Nat → Prop) (hS : ∀ k, w.heap.size ≤ k → S k) (A : Option Addr) (ca : Nat) (bs : List UInt8) (n : Nat) (hn : bs.length = n) (hr : Rd w w.heap.size A n bs) (hlc : n ≤ ca) (hA0 : KO S A ca) (hl : n ≤ 100000) (o : Int) (ho : -9223372036854775808 ≤ o ∧ o ≤ 9223372036854775807) (x : Option (List UInt8)) (hx : putB bs o = x) :
    Calls Try.prog 33 #[.slice A n ca, .int .i64 o] w fun e w' => SlB S n (x.getD bs) x.isSome w e w' := by
  subst hx
  by_cases hk0 : freeI bs o < 0
  · have e : putB bs o = none := by unfold putB; rw [if_pos hk0]
    rw [e]
    exact rput_1 w S hS A ca bs n hn hr hlc hA0 hl o ho _ rfl hk0
  · obtain ⟨x, hx, hu, hcx⟩ : ∃ x, getB bs o = some x ∧ x.used = false ∧ classI (x.size : Int) = freeI bs o := by
      unfold freeI at hk0 ⊢
      cases hg : getB bs o with
      | none => rw [hg] at hk0; exact absurd (by decide) hk0
      | some x =>
        rw [hg] at hk0
        cases hxu : x.used with
        | true => simp [hxu] at hk0
        | false => exact ⟨x, rfl, hxu, by simp [hxu]⟩
    obtain ⟨q1, q2, _, q3, q4, _⟩ := getB_some hx
    have q5 := (isSz_iff _).1 q4
    obtain ⟨c, hc, hc22⟩ := class_nat q4
    obtain ⟨p, hp⟩ : ∃ p, x.off = p := ⟨_, rfl⟩
    rw [hp] at q1 q2 q3
    subst q1
    rw [hc] at hcx
    have hk := hcx.symm
    obtain ⟨f, hf⟩ : ∃ f, wordN bs (8 + 8 * c) = f := ⟨_, rfl⟩
    obtain ⟨m, hm⟩ : ∃ m, memberB bs f (c : Int) = m := ⟨_, rfl⟩
    have hput : putB bs (p : Int) = if (f : Int) = (p : Int) ∨ (f ≠ 0 ∧ m = false) then none else some (markB (lyN (if f ≠ 0 then lyN (lyN (lyN bs (p + 8) f) (p + 16) 0) (f + 16) p else lyN (lyN bs (p + 8) f) (p + 16) 0) (8 + 8 * c) p) c) := by
      unfold putB
      rw [if_neg hk0, hk]
      simp only [Int.toNat_natCast, hf, hm]
    rw [hput]
    by_cases h1 : f = p
    · rw [if_pos (.inl (by omega))]
      exact rput_2 w S hS A ca bs n hn hr hlc hA0 hl p c f (by omega) hc22 hk hf m hm (by omega) h1
    · by_cases h2 : f = 0
      · subst h2
        rw [if_neg (by omega), if_neg (by omega)]
        exact rput_4 w S hS A ca bs n hn hr hlc hA0 hl p c hc22 hk hf m hm (by omega) (by omega)
      · cases m with
        | false =>
          rw [if_pos (.inr ⟨h2, rfl⟩)]
          exact rput_3 w S hS A ca bs n hn hr hlc hA0 hl p c f (by omega) hc22 hk hf hm (by omega) h1 h2
        | true =>
          rw [if_neg (by rintro (e | ⟨_, e⟩); omega; cases e), if_pos h2]
          have hfm : 184 ≤ f ∧ f + 32 ≤ n := by
            unfold memberB at hm
            cases hg : getB bs (f : Int) with
            | none => rw [hg] at hm; simp at hm
            | some y =>
              obtain ⟨r1, r2, _, r3, r4, _⟩ := getB_some hg
              have := (isSz_iff _).1 r4
              omega
          exact rput_5 w S hS A ca bs n hn hr hlc hA0 hl p c f hc22 hk hf hm (by omega) (by omega) h1 hfm.1 hfm.2
end
end Go.Proofs.Ytjokbjmfnidmjaa

/- The contracts of the document's own lists: All. -/
namespace Go.Proofs.Ytjokbjmfnidmjaa
open Go.RowKit

theorem int_inf : (Try.prog.info? 3).map (fun i => (i.zero, i.size, i.bytes)) = some (some (.int .i64 0), 1, 8) := by kernel_rfl
def iV (n : Nat) : Value := .int .i64 (n : Int)
/-- A slice of numbers. -/
def IntsTold (x : Option (List Nat)) (w : World) (e : Ending) (w' : World) : Prop :=
  ∃ A' c', e = .returned (.tuple #[.slice A' (x.getD []).length c', .bool x.isSome]) ∧ w'.ownsRow w.heap.size 3 1 (.slice A' (x.getD []).length c') (x.getD []).length ((x.getD []).map iV) ∧ Below w.heap.size w w'

section
variable (w : World)
set_option maxRecDepth 100000 in
set_option maxHeartbeats 2000000 in
theorem rall_any (A : Option Addr) (ca : Nat) (bs : List UInt8) (hr : Rd w w.heap.size A bs.length bs) (hlc : bs.length ≤ ca) (hl : bs.length ≤ 100000) (c : Nat) (hc : c < 22) (x : Option (List Nat)) (hx : allB bs c = x) :
    Calls Try.prog 27 #[.slice A bs.length ca, .int .i64 (c : Int)] w fun e w' => IntsTold x w e w' := by
  by_cases h0 : bs.length < 184
  · obtain rfl : none = x := by rw [← hx]; unfold allB; rw [if_pos h0]
    clear hx hr
    go_enter Try.func27, Try.ntmps27
    go_wp2
    go_ret2
    exact ⟨none, 0, rfl, World.ownsRow_nil _ _ _ _, Below.refl _ _⟩
  · obtain ⟨v, hv⟩ : ∃ v, wordN bs 0 = v := ⟨_, rfl⟩
    obtain ⟨f, hf⟩ : ∃ f, wordN bs (8 + 8 * c) = f := ⟨_, rfl⟩
    obtain ⟨b, hb⟩ : ∃ b, bitN v c = b := ⟨_, rfl⟩
    have hvl : v < 18446744073709551616 := by rw [← hv]; exact wordN_lt _ _
    have hfl : f < 18446744073709551616 := by rw [← hf]; exact wordN_lt _ _
    have n0 := rnum_any w A ca w.heap.size bs hr hlc (by omega) 0 (by omega) v (by rw [← hv]; exact numO_at bs 0 (by omega))
    have n1 := rnum_any w A ca w.heap.size bs hr hlc (by omega) (8 + 8 * (c : Int)) (by omega) f (by rw [← hf, ← numO_at bs (8 + 8 * c) (by omega)]; rfl)
    have bt := rbit_any w v c hvl (by omega) b hb
    have hx' : (if b ≠ decide (f ≠ 0) then none else allF bs c 1024 0 f) = x := by rw [← hx]; unfold allB; rw [if_neg h0, hv, hf, hb]
    have HN0 := Lib.hid n0
    have HN1 := Lib.hid n1
    have HBT := Lib.hid bt
    have HR := Lib.hid hr
    obtain ⟨d, hd⟩ : ∃ d, decide (f ≠ 0) = d := ⟨_, rfl⟩
    have hd2 : ((f : Int) != 0) = d := by
      rw [← hd, Bool.eq_iff_iff, bne_iff_ne, decide_eq_true_eq]; omega
    rw [hd] at hx'
    clear n0 n1 bt hv hf hb hx hr
    by_cases hbd : b = d
    · subst hbd
      rw [if_neg (by simp)] at hx'
      obtain ⟨i0, hi, hz0, hz1, hz2⟩ := info_parts int_inf
      have HX := Lib.hid hx'
      obtain ⟨B0, hB0⟩ : ∃ B0, w.heap.size = B0 := ⟨_, rfl⟩
      have HB0 := Lib.hid hB0
      have hbb : (b != b) = false := by simp
      clear hx' hB0 hd
      go_enter Try.func27, Try.ntmps27
      go_wp2_with fail
      with_reducible refine HN1.out.mono ?_
      rintro e w1 ⟨rfl, rfl⟩
      go_wp2_with fail
      with_reducible refine HN0.out.mono ?_
      rintro e w1 ⟨rfl, rfl⟩
      go_wp2_with fail
      with_reducible refine HBT.out.mono ?_
      rintro e w1 ⟨rfl, rfl⟩
      clear HN0 HN1 HBT
      go_wp2
      clear hd2
      go_loopw [6, 8, 9] (fun q o t wr => ∃ (p last k : Nat) (l : List Nat), q = .int .u64 (p : Int) ∧ t = .int .u64 (last : Int) ∧ p < 18446744073709551616 ∧ last < 18446744073709551616 ∧ k + l.length = 1024 ∧ x = (allF bs c k last p).map (l ++ ·) ∧ wr.ownsRow B0 3 1 o l.length (l.map iV) ∧ Below B0 w wr) (fun _ o _ _ => match o with | .slice _ n _ => 1024 - n | _ => 0)
      case atStart => exact ⟨f, 0, 1024, [], rfl, rfl, hfl, by omega, rfl, by rw [HX.out]; simp, World.ownsRow_nil _ _ _ _, Below.refl _ _⟩
      case round =>
        obtain ⟨p, last, k, l, rfl, rfl, hp, hlast, hk, hxl, hown, hbw⟩ := hrel
        obtain ⟨A7, c7, rfl⟩ := own_sl hown
        have hBw : B0 ≤ wr.heap.size := by have := hbw.size; have := HB0.out; omega
        by_cases hp0 : p = 0
        · subst hp0
          obtain rfl : x = some l := by rw [hxl]; cases k <;> simp [allF]
          have HB := Lib.hid hbw
          have HO := Lib.hid hown
          clear hxl hown hbw HX
          go_wp2
          go_ret2
          exact ⟨A7, c7, rfl, by rw [HB0.out]; exact HO.out, by rw [HB0.out]; exact HB.out⟩
        · have hq0 : ((p : Int) != 0) = true := by rw [bne_iff_ne]; omega
          obtain ⟨m, hm⟩ : ∃ m, memberB bs p (c : Int) = m := ⟨_, rfl⟩
          have hrw : Rd wr w.heap.size A bs.length bs := HR.out.keep (fun q hq => hbw.cell (p := q) (by have := HB0.out; omega))
          have hM := rmember_any wr A ca w.heap.size bs hrw hlc (by omega) p hp (c : Int) m hm
          have HM := Lib.hid hM
          by_cases hk0 : k = 0
          · subst hk0
            obtain rfl : x = none := by rw [hxl]; simp [allF, hp0]
            have e1 : ((l.length : Int) == 1024) = true := by rw [beq_iff_eq]; omega
            have HB := Lib.hid hbw
            clear hxl hown hbw HX hrw hM hm
            go_wp2_with fail
            with_reducible refine HM.out.mono ?_
            rintro e w2 ⟨rfl, hb2⟩
            have HB2 := Lib.hid (HB.out.trans (hb2.mono hBw))
            clear hb2
            go_wp2
            go_ret2
            exact ⟨none, 0, rfl, World.ownsRow_nil _ _ _ _, by rw [HB0.out]; exact HB2.out⟩
          · obtain ⟨k, rfl⟩ : ∃ k', k = k' + 1 := ⟨k - 1, by omega⟩
            have e1 : ((l.length : Int) == 1024) = false := by rw [beq_eq_false_iff_ne]; omega
            have hstep : x = (if m = true ∧ wordN bs (p + 16) = last then (allF bs c k p (wordN bs (p + 8))).map (p :: ·) else none).map (l ++ ·) := by
              rw [hxl]
              conv => lhs; unfold allF
              rw [if_neg hp0]
              dsimp only
              rw [hm]
            cases m with
            | false =>
              obtain rfl : x = none := by rw [hstep]; rfl
              have HB := Lib.hid hbw
              clear hxl hstep hown hbw HX hrw hM hm
              go_wp2_with fail
              with_reducible refine HM.out.mono ?_
              rintro e w2 ⟨rfl, hb2⟩
              have HB2 := Lib.hid (HB.out.trans (hb2.mono hBw))
              clear hb2
              go_wp2
              go_ret2
              exact ⟨none, 0, rfl, World.ownsRow_nil _ _ _ _, by rw [HB0.out]; exact HB2.out⟩
            | true =>
              have hpf : p + 32 ≤ bs.length := by
                unfold memberB at hm
                cases hg : getB bs (p : Int) with
                | none => rw [hg] at hm; simp at hm
                | some y =>
                  obtain ⟨r1, r2, _, r3, r4, _⟩ := getB_some hg
                  have := (isSz_iff _).1 r4
                  omega
              obtain ⟨u, hu⟩ : ∃ u, wordN bs (p + 16) = u := ⟨_, rfl⟩
              obtain ⟨nx, hnx⟩ : ∃ nx, wordN bs (p + 8) = nx := ⟨_, rfl⟩
              have hul : u < 18446744073709551616 := by rw [← hu]; exact wordN_lt _ _
              have hnl : nx < 18446744073709551616 := by rw [← hnx]; exact wordN_lt _ _
              rw [hu, hnx] at hstep
              have hU := fun W (hb : Below w.heap.size wr W) => rnum_any W A ca w.heap.size bs (hrw.keep fun q hq => hb.cell (p := q) hq) hlc (by omega) ((p : Int) + 16) (by omega) u (by rw [← hu, ← numO_at bs (p + 16) (by omega)]; rfl)
              have hww : w.heap.size ≤ wr.heap.size := by have := HB0.out; omega
              have hN := fun W (hb : Below w.heap.size wr W) => rnum_any W A ca w.heap.size bs (hrw.keep fun q hq => hb.cell (p := q) hq) hlc (by omega) ((p : Int) + 8) (by omega) nx (by rw [← hnx, ← numO_at bs (p + 8) (by omega)]; rfl)
              have HU := Lib.hid hU
              have HN := Lib.hid hN
              by_cases hul2 : u = last
              · subst hul2
                rw [if_pos ⟨rfl, rfl⟩] at hstep
                have hstep' : x = (allF bs c k p nx).map ((l ++ [p]) ++ ·) := by
                  rw [hstep, Option.map_map]
                  congr 1
                  funext r
                  simp
                have hs2 : ((u : Int) != (u : Int)) = false := by simp
                have HB := Lib.hid hbw
                have HS := Lib.hid hstep'
                have HOWN := Lib.hid hown
                have HALT : Hid (∀ k, (Value.slice A7 l.length c7).ownBlock = some k → B0 ≤ k ∧ k < wr.heap.size) := hown.lt
                clear hxl hstep hstep' hown hbw HX hrw hM hm hU hN hu hnx
                go_wp2_with fail
                with_reducible refine HM.out.mono ?_
                rintro e w2 ⟨rfl, hb2⟩
                have H2 := Lib.hid hb2
                go_wp2_with fail
                refine (HU.out w2 (H2.out.mono hww)).mono ?_
                rintro e w3 ⟨rfl, rfl⟩
                have own4 := own_below' (own_below' HOWN.out hb2) ((Below.refl w2.heap.size w2).alloc (Nat.le_refl _) (.cells #[.int .i64 (p : Int)] 3))
                have n4 : (w2.alloc (.cells #[.int .i64 (p : Int)] 3)).heap[w2.heap.size]? = some (.cells #[.int .i64 (p : Int)] 3 (0, 0)) := heap_alloc_new w2 _
                have HNEW : Hid (∀ j u, [Value.int .i64 (p : Int)][j]? = some u → (w2.alloc (.cells #[.int .i64 (p : Int)] 3)).cell? ((⟨w2.heap.size, 0, none⟩ : Addr).add j) = some u) := fun j u hu => by
                  have e : (⟨w2.heap.size, 0, none⟩ : Addr).add j = ⟨w2.heap.size, j, none⟩ := by unfold Addr.add; split <;> simp_all
                  rw [e, cell_of_row _ _ j _ _ (0, 0) n4]
                  simpa using hu
                have HONE : Hid (∀ u ∈ [Value.int .i64 (p : Int)], u.oneCell' = true) := fun u hu => by
                  simp at hu
                  subst hu; rfl
                have hB4 : B0 ≤ (w2.alloc (.cells #[.int .i64 (p : Int)] 3)).heap.size := by simp; have := hb2.size; omega
                have HB4 : Hid (Below w2.heap.size w2 (w2.alloc (.cells #[.int .i64 (p : Int)] 3))) := (Below.refl w2.heap.size w2).alloc (Nat.le_refl _) _
                have OWN4 := Lib.hid own4
                have hsz2 := hb2.size
                clear own4 n4 hb2 HOWN HM HU
                go_wp2_with (first
                  | (at_builtin; go_must (refine wpList_append_own _ rfl _ _ 42 rfl B0 3 i0 _ 1 8 Try.underlying42 hi hz0 hz1 hz2 rfl (by decide) _ l.length (l.map iV) rfl OWN4.out ⟨w2.heap.size, 0, none⟩ 1 1 [.int .i64 (p : Int)] rfl rfl HNEW.out HONE.out (by unfold maxLen; omega) (by omega) hB4 ?_); intro x5 w5 own5 gr5 at5;
                     have gr5' : (w2.alloc (.cells #[.int .i64 (p : Int)] 3)).grownBy w5 (Value.slice A7 l.length c7).ownBlock := gr5; have HB5 : Hid (Below B0 wr w5) := ((H2.out.mono hBw).trans (HB4.out.mono (by omega))).grown gr5' hB4 (fun k hk => (HALT.out k hk).1); have HW5 : Hid (Below w.heap.size wr w5) := (show Below w.heap.size wr w5 by rw [HB0.out]; exact HB5.out); have OWN5 : Hid (w5.ownsRow B0 3 1 x5 (l.length + 1) ((l ++ [p]).map iV)) := (show World.ownsRow _ _ _ _ _ _ _ by rw [List.map_append]; exact own5); clear own5 gr5 gr5' at5)
                  | fail)
                refine (HN.out w5 HW5.out).mono ?_
                rintro e w6 ⟨rfl, rfl⟩
                have HBE := Lib.hid (HB.out.trans HB5.out)
                clear HN H2 HB4 OWN4 HNEW HONE
                go_wp2
                go_roundw
                case rel => exact ⟨nx, p, k, l ++ [p], rfl, rfl, hnl, hp, by rw [List.length_append, List.length_singleton]; omega, HS.out, by rw [List.length_append, List.length_singleton]; exact OWN5.out, HBE.out⟩
                case measure =>
                  obtain ⟨A8, c8, rfl⟩ := own_sl OWN5.out
                  simp; omega
              · rw [if_neg (fun h => hul2 h.2)] at hstep
                obtain rfl : x = none := hstep
                have hs2 : ((u : Int) != (last : Int)) = true := by rw [bne_iff_ne]; omega
                have HB := Lib.hid hbw
                clear hxl hown hbw HX hrw hM hm hU hN hu hnx hul2
                go_wp2_with fail
                with_reducible refine HM.out.mono ?_
                rintro e w2 ⟨rfl, hb2⟩
                have H2 := Lib.hid hb2
                have HB2 := Lib.hid (HB.out.trans (hb2.mono hBw))
                clear hb2
                go_wp2_with fail
                refine (HU.out w2 (H2.out.mono hww)).mono ?_
                rintro e w3 ⟨rfl, rfl⟩
                go_wp2
                go_ret2
                exact ⟨none, 0, rfl, World.ownsRow_nil _ _ _ _, by rw [HB0.out]; exact HB2.out⟩
    · rw [if_pos hbd] at hx'
      obtain rfl : none = x := hx'
      have hcs : (b = true ∧ d = false) ∨ (b = false ∧ d = true) := by cases b <;> cases d <;> simp_all
      clear hd hbd
      rcases hcs with ⟨rfl, rfl⟩ | ⟨rfl, rfl⟩
      all_goals
        go_enter Try.func27, Try.ntmps27
        go_wp2_with fail
        with_reducible refine HN1.out.mono ?_
        rintro e w1 ⟨rfl, rfl⟩
        go_wp2_with fail
        with_reducible refine HN0.out.mono ?_
        rintro e w1 ⟨rfl, rfl⟩
        go_wp2_with fail
        with_reducible refine HBT.out.mono ?_
        rintro e w1 ⟨rfl, rfl⟩
        clear HN0 HN1 HBT
        go_wp2
        go_ret2
        exact ⟨none, 0, rfl, World.ownsRow_nil _ _ _ _, Below.refl _ _⟩
end
end Go.Proofs.Ytjokbjmfnidmjaa

/- The contracts of the document's own fits: Find. -/
namespace Go.Proofs.Ytjokbjmfnidmjaa
open Go.RowKit

theorem find_take {p : Nat → Bool} {l : List Nat} {j o : Nat} (h : ∀ q ∈ l.take j, p q = false) (hj : l[j]? = some o) (ho : p o = true) : l.find? p = some o := by
  have hlt : j < l.length := by
    rcases Nat.lt_or_ge j l.length with h | h
    · exact h
    · rw [List.getElem?_eq_none h] at hj; cases hj
  rw [List.getElem?_eq_getElem hlt] at hj
  injection hj with hj
  have e : l = l.take j ++ (o :: l.drop (j + 1)) := by rw [← hj, ← List.drop_eq_getElem_cons hlt, List.take_append_drop]
  rw [e, List.find?_append]
  have hn : (l.take j).find? p = none := List.find?_eq_none.2 fun q hq => by rw [h q hq]; simp
  rw [hn, Option.none_or, List.find?_cons_of_pos ho]
theorem find_none' {p : Nat → Bool} {l : List Nat} (h : ∀ q ∈ l, p q = false) : l.find? p = none := List.find?_eq_none.2 fun q hq => by rw [h q hq]; simp

theorem allF_member (bs : List UInt8) (c : Nat) : ∀ (k last p : Nat) (l : List Nat), allF bs c k last p = some l → ∀ o ∈ l, memberB bs o (c : Int) = true
  | 0, last, p, l, h, o, ho => by
    unfold allF at h
    split at h
    · injection h with h; subst h; cases ho
    · cases h
  | k + 1, last, p, l, h, o, ho => by
    unfold allF at h
    by_cases hp : p = 0
    · rw [if_pos hp] at h; injection h with h; subst h; cases ho
    · rw [if_neg hp] at h
      dsimp only at h
      by_cases hm : memberB bs p (c : Int) = true ∧ wordN bs (p + 16) = last
      · rw [if_pos hm] at h
        cases hr : allF bs c k p (wordN bs (p + 8)) with
        | none => rw [hr] at h; cases h
        | some l' =>
          rw [hr] at h
          injection h with h
          subst h
          rcases List.mem_cons.1 ho with e | ho
          · rw [e]; exact hm.1
          · exact allF_member bs c k p _ l' hr o ho
      · rw [if_neg hm] at h; cases h
theorem allB_member {bs : List UInt8} {c : Nat} {l : List Nat} (h : allB bs c = some l) : ∀ o ∈ l, memberB bs o (c : Int) = true := by
  unfold allB at h
  split at h
  · cases h
  · split at h
    · cases h
    · exact allF_member bs c _ _ _ l h
theorem memberB_get {bs : List UInt8} {p : Nat} {c : Int} (h : memberB bs p c = true) : p ≤ 20000 ∧ ∃ x, getB bs (p : Int) = some x := by
  unfold memberB at h
  cases hg : getB bs (p : Int) with
  | none => rw [hg] at h; simp at h
  | some x => rw [hg] at h; simp at h; exact ⟨h.1, x, rfl⟩
section
variable (w : World)
set_option maxRecDepth 100000 in
set_option maxHeartbeats 2000000 in
theorem rfind_any (A : Option Addr) (ca : Nat) (bs : List UInt8) (hr : Rd w w.heap.size A bs.length bs) (hlc : bs.length ≤ ca) (hl : bs.length ≤ 100000) (s : Nat) (hs : isSz (s : Int) = true) (x : Option Nat) (hx : findB bs (s : Int) = x) :
    Calls Try.prog 11 #[.slice A bs.length ca, .int .i64 (s : Int)] w fun e w' => e = .returned (.tuple #[.int .i64 ((x.getD 0 : Nat) : Int), .bool x.isSome]) ∧ Below w.heap.size w w' := by
  obtain ⟨c, hc, hc22⟩ : ∃ c : Nat, classI (s : Int) = (c : Int) ∧ c < 22 := by
    have h1 := classI_bounds (s : Int)
    have h2 : ¬ classI (s : Int) < 0 := by rw [classI_neg]; simp [hs]
    exact ⟨(classI (s : Int)).toNat, by omega, by omega⟩
  have hss := (isSz_iff _).1 hs
  have hx' : findF bs (s : Int) (22 - c) c = x := by rw [← hx]; unfold findB; rw [hc]; rfl
  have HC := Lib.hid (fun w => rclass_any w (s : Int) (by omega) (c : Int) hc)
  have HX := Lib.hid hx'
  have HR := Lib.hid hr
  obtain ⟨B0, hB0⟩ : ∃ B0, w.heap.size = B0 := ⟨_, rfl⟩
  have HB0 := Lib.hid hB0
  clear hx hx' hr hB0 hc hs
  go_enter Try.func11, Try.ntmps11
  go_wp2_with fail
  with_reducible refine (HC.out w).mono ?_
  rintro e w1 ⟨rfl, rfl⟩
  go_wp2
  go_loopw [6] (fun t wr => ∃ d k : Nat, t = .int .i64 (d : Int) ∧ d + k = 22 ∧ x = findF bs (s : Int) k d ∧ Below B0 w wr) (fun t _ => 22 - (intOf t).toNat)
  case atStart => exact ⟨c, 22 - c, rfl, by omega, HX.out.symm, Below.refl _ _⟩
  case round =>
    obtain ⟨d, k, rfl, hdk, hxf, hb⟩ := hrel
    have hBw : B0 ≤ wr.heap.size := by have := hb.size; have := HB0.out; omega
    by_cases hd22 : d < 22
    · obtain ⟨k, rfl⟩ : ∃ k', k = k' + 1 := ⟨k - 1, by omega⟩
      have hrw : Rd wr wr.heap.size A bs.length bs := (HR.out.keep (fun q hq => hb.cell (p := q) (by have := HB0.out; omega))).more (by have := hb.size; omega)
      cases ha : allB bs d with
      | none =>
        obtain rfl : x = none := by rw [hxf]; simp [findF, ha]
        have hA := rall_any wr A ca bs hrw hlc hl d hd22 _ ha
        have HA := Lib.hid hA
        have HB := Lib.hid hb
        clear hA hb hxf hrw HX ha
        go_wp2_with fail
        with_reducible refine HA.out.mono ?_
        rintro e w2 ⟨A', c', rfl, _, hb2⟩
        have HB2 := Lib.hid (HB.out.trans (hb2.mono hBw))
        clear hb2
        dsimp only [Option.isSome, Option.getD]
        go_wp2
        go_ret2
        exact ⟨rfl, by rw [HB0.out]; exact HB2.out⟩
      | some l =>
        have hA := rall_any wr A ca bs hrw hlc hl d hd22 _ ha
        dsimp only [IntsTold, Option.isSome, Option.getD] at hA
        have hxf' : x = (match l.find? (fun o => decide ((s : Int) ≤ (szB bs o : Int))) with
          | some o => some o
          | none => findF bs (s : Int) k (d + 1)) := by
          rw [hxf]
          conv => lhs; unfold findF
          rw [ha] <;> rfl
        have HA := Lib.hid hA
        have HB := Lib.hid hb
        have HXF := Lib.hid hxf'
        have HMEM := Lib.hid (allB_member ha)
        clear hA hb hxf hxf' hrw HX ha
        go_wp2_with fail
        with_reducible refine HA.out.mono ?_
        rintro e w2 ⟨A2, c2, rfl, ho2, hb2⟩
        have HB2 := Lib.hid (HB.out.trans (hb2.mono hBw))
        have hB2 := Nat.le_trans hBw hb2.size
        have HO2 := Lib.hid ho2
        have hcl : l.length ≤ c2 ∧ c2 ≤ 9223372036854775807 := by
          rcases ho2.2 with ⟨h', h0⟩ | ⟨_, _, _, h', _, _, h1, h2, _⟩
          · injection h' with _ _ e; rw [h0, e]; omega
          · injection h' with _ _ e; unfold maxLen at h2; omega
        clear hb2 ho2 HA
        go_wp2
        go_loopw [9] (fun i wr => ∃ j : Nat, j ≤ l.length ∧ i = .int .i64 (j : Int) ∧ (∀ q ∈ l.take j, decide ((s : Int) ≤ (szB bs q : Int)) = false) ∧ Below w2.heap.size w2 wr) (fun i _ => l.length - (intOf i).toNat)
        case atStart => exact ⟨0, Nat.zero_le _, rfl, by simp, Below.refl _ _⟩
        case round =>
          obtain ⟨j, hj, rfl, hall, hb3⟩ := hrel
          have HB3 := Lib.hid (HB2.out.trans (hb3.mono hB2))
          by_cases hlt : j < l.length
          · obtain ⟨o, ho⟩ : ∃ o, l[j]? = some o := ⟨l[j], List.getElem?_eq_getElem hlt⟩
            have own3 := own_below' HO2.out hb3
            obtain ⟨b2, rfl⟩ : ∃ b2, A2 = some ⟨b2, 0, none⟩ := by
              rcases own3.2 with ⟨_, h0⟩ | ⟨g, _, _, h', _⟩
              · omega
              · injection h' with e; exact ⟨g, e⟩
            have hcell : wr.cell? ⟨b2, j, none⟩ = some (.int .i64 (o : Int)) := by
              rw [own3.cellAt j (by omega), List.getElem?_map, ho]; rfl
            have hb03 := HB3.out
            have hrw : Rd wr wr.heap.size A bs.length bs := (HR.out.keep (fun q hq => hb03.cell (p := q) (by have := HB0.out; omega))).more (by have := hb03.size; omega)
            obtain ⟨ho20, ⟨xo, xs, xu⟩, hg⟩ := memberB_get (HMEM.out o (List.mem_of_getElem? ho))
            have hsz := szB_of hg
            dsimp only at hsz
            have hG := rgetB_any wr A ca wr.heap.size bs hrw hlc (by omega) (o : Int) (by omega) _ hg
            dsimp only [bkV, Bk.val, Option.isSome] at hG
            have HG := Lib.hid hG
            have q := (isSz_iff _).1 (getB_some hg).2.2.2.2.1
            dsimp only at q
            have HALL := Lib.hid hall
            have HO := Lib.hid ho
            have HOWN := Lib.hid own3
            have HB2R := Lib.hid hb3
            clear hG hg hrw hb03 hb3 own3 hall
            by_cases hge : s ≤ xs
            · have hx1 : x = some o := by
                rw [HXF.out, find_take HALL.out HO.out (by rw [hsz]; simpa using hge)]
              subst hx1
              clear HXF
              go_wp2_with fail
              with_reducible refine HG.out.mono ?_
              rintro e w4 ⟨rfl, hb4⟩
              have hcell4 : w4.cell? ⟨b2, j, none⟩ = some (.int .i64 (o : Int)) := by
                have own4 := own_below' HOWN.out hb4
                rw [own4.cellAt j (by omega), List.getElem?_map, HO.out]; rfl
              have HB4 := Lib.hid (HB3.out.trans (hb4.mono (by have := HB2R.out.size; omega)))
              have HS4 := Lib.hid hb4.size
              clear hb4
              have hcell5 : ∀ o', (w4.alloc o').cell? ⟨b2, j, none⟩ = some (.int .i64 (o : Int)) := fun o' => by
                rw [World.cell?_alloc_lt _ _ _ (World.block_lt_of_cell? w4 _ (by rw [hcell4]))]; exact hcell4
              go_wp2
              go_ret2
              exact ⟨rfl, by rw [HB0.out]; exact HB4.out.alloc (by have := HS4.out; have := HB2R.out.size; omega) _⟩
            · go_wp2_with fail
              with_reducible refine HG.out.mono ?_
              rintro e w4 ⟨rfl, hb4⟩
              have HB4 := Lib.hid (HB2R.out.trans (hb4.mono HB2R.out.size))
              have HS4 := Lib.hid (Nat.le_trans HB2R.out.size hb4.size)
              clear hb4
              go_wp2
              go_roundw
              case rel => exact ⟨j + 1, by omega, rfl, by
                  intro q hq
                  rw [List.take_add_one, HO.out] at hq
                  rcases List.mem_append.1 hq with hq | hq
                  · exact HALL.out q hq
                  · simp at hq
                    rw [hq, hsz]
                    simpa using hge, HB4.out.alloc HS4.out _⟩
              case measure => simp only [intOf]; omega
          · obtain rfl : j = l.length := by omega
            have hx2 : x = findF bs (s : Int) k (d + 1) := by
              rw [HXF.out, find_none' (by rw [List.take_length] at hall; exact hall)]
            have HX2 := Lib.hid hx2
            have HB4 := HB3
            clear HXF hx2 hall hb3
            go_wp2
            go_roundw
            case rel => exact ⟨d + 1, k, rfl, by omega, HX2.out, HB4.out⟩
            case measure => simp only [intOf]; omega
    · obtain ⟨rfl, rfl⟩ : d = 22 ∧ k = 0 := by omega
      obtain rfl : x = some 0 := by rw [hxf]; rfl
      have HB := Lib.hid hb
      clear hxf hb HX
      go_wp2
      go_ret2
      exact ⟨rfl, by rw [HB0.out]; exact HB.out⟩
end
end Go.Proofs.Ytjokbjmfnidmjaa

/- The contracts of the document's own fits: Rebuild. -/
namespace Go.Proofs.Ytjokbjmfnidmjaa
open Go.RowKit

theorem walkF_mem (bs : List UInt8) : ∀ (k o : Nat) (l : List Bk), walkF bs k o = some l → ∀ x ∈ l, getB bs (x.off : Int) = some x
  | 0, _, _, h, _, _ => by cases h
  | k + 1, o, l, h, x, hx => by
    unfold walkF at h
    by_cases hlt : o < bs.length
    · rw [if_pos hlt] at h
      cases hg : getB bs (o : Int) with
      | none => rw [hg] at h; cases h
      | some y =>
        rw [hg] at h
        dsimp only at h
        cases hr : walkF bs k (o + y.size) with
        | none => rw [hr] at h; cases h
        | some r =>
          rw [hr] at h
          injection h with h
          subst h
          rcases List.mem_cons.1 hx with e | hx
          · subst e
            have := (getB_some hg).1
            rw [← this, hg]
          · exact walkF_mem bs k _ r hr x hx
    · rw [if_neg hlt] at h
      injection h with h
      subst h
      cases hx
theorem walkB_mem {bs : List UInt8} {l : List Bk} (h : walkB bs = some l) : 184 ≤ bs.length ∧ ∀ x ∈ l, getB bs (x.off : Int) = some x := by
  unfold walkB at h
  split at h
  · cases h
  · exact ⟨by omega, walkF_mem bs _ _ l h⟩
theorem own_bks {w : World} {base n : Nat} {t : TypeId} {A : Option Addr} {c : Nat} {l : List Bk} (h : w.ownsRow base t 3 (.slice A n c) n (flatK l)) (hn : n = l.length) : BkRd w w.heap.size A l := fun h0 => by
  rcases h.2 with ⟨_, h0'⟩ | ⟨g, _, _, h', _⟩
  · omega
  · injection h' with e
    subst e
    refine ⟨g, 0, rfl, (h.lt g rfl).2, fun j x hx => ?_⟩
    obtain ⟨q0, q1, q2⟩ := flatK_get l j x hx
    have hj : j < l.length := by
      rcases Nat.lt_or_ge j l.length with h | h
      · exact h
      · rw [List.getElem?_eq_none h] at hx; cases hx
    refine ⟨?_, ?_, ?_⟩
    · rw [Nat.zero_add, h.cellAt (j * 3) (by omega), q0]
    · rw [Nat.zero_add, h.cellAt (j * 3 + 1) (by omega), q1]
    · rw [Nat.zero_add, h.cellAt (j * 3 + 2) (by omega), q2]

/-- make([]byte, n): a block of n bytes that are 0. -/
theorem run_mk0 (n : Nat) (hn : n ≤ 1000000) (z : List UInt8) (hz : List.replicate n (0 : UInt8) = z) (W : World) : (Instr.makeSlice 24 (.int .i64 (n : Int)) (.int .i64 (n : Int))).run Try.prog W = .ok (.slice (some ⟨W.heap.size, 0, none⟩) n n) (W.alloc (.cells (rowB z) 5)) := by
  have := run_make_row' (P := Try.prog) 24 5 (.int .u8 0) 1 Try.underlying24 u8_infb rfl .i64 .i64 n (by omega) (by omega) W
  rw [rowB_zeros, hz] at this
  exact this
theorem mk_run {P : Program} {o : Oper} {a : Act} {w w1 : World} {v L C : Value} {t : TypeId} {l c : Operand} (ho : o.op = .makeSlice t l c) (hl : a.eval l = L) (hc : a.eval c = C)
    (hr : (Instr.makeSlice t L C).run P w = .ok v w1) : (execOp a.eval o).run P w = .ok (.value v) w1 := by
  unfold execOp
  simp only [ho]
  rw [hl, hc, Sem.run_bind, hr]
  rfl

/-- What a slice is from a place on. -/
theorem rd_from {w : World} {B b o ca k : Nat} {bs : List UInt8} (hb : b < B) (hc : ∀ (j : Nat) (u : UInt8), bs[j]? = some u → w.cell? ⟨b, o + j, none⟩ = some (.int .u8 (u.toNat : Int))) (hlc : bs.length ≤ ca) :
    Rd w B (if ca = k then some ⟨b, o, none⟩ else some ⟨b, o + k, none⟩) (bs.length - k) (bs.drop k) := by
  refine ⟨by simp, fun h => ?_⟩
  rw [if_neg (by omega)]
  refine ⟨b, o + k, rfl, hb, fun j u hu => ?_⟩
  rw [List.getElem?_drop] at hu
  have := hc (k + j) u hu
  rw [Nat.add_assoc]
  exact this

section
variable (w : World)
set_option maxRecDepth 100000 in
set_option maxHeartbeats 2000000 in
theorem rrebuild_any (S : Nat → Prop) (hS : ∀ k, w.heap.size ≤ k → S k) (A : Option Addr) (ca : Nat) (bs : List UInt8) (n : Nat) (hn : bs.length = n) (hr : Rd w w.heap.size A n bs) (hlc : n ≤ ca) (hA0 : KO S A ca) (hl : n ≤ 100000) (x : Option (List UInt8)) (hx : rebuildB bs = x) :
    Calls Try.prog 13 #[.slice A n ca] w fun e w' => SlB S n (x.getD bs) x.isSome w e w' := by
  subst hn
  cases hw : walkB bs with
  | none =>
    obtain rfl : none = x := by rw [← hx]; unfold rebuildB; rw [hw]; rfl
    have hW := rwalkB_any w A ca w.heap.size bs hr (Nat.le_refl _) hlc hl none hw
    dsimp only [BksTold, Option.isSome, Option.getD] at hW
    have HW := Lib.hid hW
    have HR := Lib.hid hr
    clear hW hr hw hx
    go_enter Try.func13, Try.ntmps13
    go_wp2_with fail
    with_reducible refine HW.out.mono ?_
    rintro e w1 ⟨A', c', rfl, _, hb⟩
    go_wp2
    go_ret2
    exact ⟨A, ca, rfl, (HR.out.below hb).more hb.size, hlc, hA0, hb⟩
  | some l =>
    obtain rfl : some (l.foldl rebF (List.replicate 184 0 ++ bs.drop 184)) = x := by rw [← hx]; unfold rebuildB; rw [hw]; rfl
    obtain ⟨h184, hmem⟩ := walkB_mem hw
    have hW := rwalkB_any w A ca w.heap.size bs hr (Nat.le_refl _) hlc hl _ hw
    dsimp only [BksTold, Option.isSome, Option.getD] at hW ⊢
    have HW := Lib.hid hW
    have HR := Lib.hid hr
    have HMEM := Lib.hid hmem
    obtain ⟨ba, oa, rfl, hba, hca⟩ := hr.2 (by omega)
    obtain ⟨z, hz⟩ : ∃ z, List.replicate 184 (0 : UInt8) = z := ⟨_, rfl⟩
    have hzl : z.length = 184 := by rw [← hz]; simp
    have HMK : ∀ W : World, Hid ((Instr.makeSlice 24 (.int .i64 184) (.int .i64 184)).run Try.prog W = .ok (.slice (some ⟨W.heap.size, 0, none⟩) 184 184) (W.alloc (.cells (rowB z) 5))) := run_mk0 184 (by omega) z hz
    rw [hz]
    have HZL := Lib.hid hzl
    have HCA := Lib.hid hca
    obtain ⟨B0, hB0⟩ : ∃ B0, w.heap.size = B0 := ⟨_, rfl⟩
    have HB0 := Lib.hid hB0
    clear hW hr hw hx hmem hz hzl hca hB0
    go_enter Try.func13, Try.ntmps13
    go_wp2_with fail
    with_reducible refine HW.out.mono ?_
    rintro e w1 ⟨A4, c4, rfl, ho4, hb1⟩
    have HO4 := Lib.hid ho4
    have HB1 := Lib.hid hb1
    have hcl : l.length ≤ c4 ∧ c4 ≤ 9223372036854775807 := by
      rcases ho4.2 with ⟨h', h0⟩ | ⟨_, _, _, h', _, _, h1, h2, _⟩
      · injection h' with _ _ e; rw [h0, e]; omega
      · injection h' with _ _ e; unfold maxLen at h2; omega
    clear ho4 hb1 HW
    go_wp2_with fail
    refine wp_region_tail w1.heap.size [([1, 2], 0)] [] [3, 4] (by kernel_rfl) (by kernel_rfl) (by kernel_rfl) (fun _ _ _ _ _ h => h) ?_
    obtain ⟨w2, hw2⟩ : ∃ w2, w1.drew = w2 := ⟨_, rfl⟩
    have hz2 : w1.heap.size = w2.heap.size := by rw [← hw2]; rfl
    have HB2 : Hid (Below B0 w w2) := by rw [← hw2, ← HB0.out]; exact HB1.out.drew
    have HO2 : Hid (w2.ownsRow B0 47 3 (.slice A4 l.length c4) l.length (flatK l)) := by rw [← hw2, ← HB0.out]; exact HO4.out
    rw [hw2, hz2]
    clear hw2 hz2 HB1 HO4
    refine tail_cons (l := ?seg1) ?hseg1 ?_
    case hseg1 => simp only [pick, List.getElem?_toArray, List.getElem?_cons_succ, List.getElem?_cons_zero]; rfl
    repeat (go_big_quiet_step (fail))
    refine wpQuiet_nil ?_
    obtain ⟨A18, hA18⟩ : ∃ A18 : Option Addr, (if ca = 184 then some (⟨ba, oa, none⟩ : Addr) else some ⟨ba, oa + 184, none⟩) = A18 := ⟨_, rfl⟩
    have HA18 : Hid (A18 = none → ca - 184 = 0) := fun h => by rw [← hA18] at h; split at h <;> cases h
    have HR18 : Hid (Rd w2 B0 A18 (bs.length - 184) (bs.drop 184)) := by
      rw [← hA18]
      exact rd_from (by rw [← HB0.out]; exact hba) (fun j u hu => (HB2.out.cell (p := ⟨ba, _, none⟩) (by rw [← HB0.out]; exact hba)).trans (HCA.out j u hu)) hlc
    rw [hA18]
    clear hA18
    obtain ⟨w3, hw3⟩ : ∃ w3, w2.alloc (.cells (rowB z) 5) = w3 := ⟨_, rfl⟩
    have hb3 : Below w2.heap.size w2 w3 := by rw [← hw3]; exact (Below.refl _ _).alloc (Nat.le_refl _) _
    have hB2 : B0 ≤ w2.heap.size := by have := HB2.out.size; have := HB0.out; omega
    have hm3 := (HMK w2).out
    have own3 : w3.ownsRow w2.heap.size 5 1 (.slice (some ⟨w2.heap.size, 0, none⟩) 184 184) 184 (z.map bv) := by
      rw [← hw3]
      exact World.ownsRow_lit w2 (rowB z) 184 (Nat.le_refl _) (by unfold maxLen; omega) (by simp [rowB, HZL.out])
    rw [hw3] at hm3
    have HB3 := Lib.hid (HB2.out.trans (hb3.mono hB2))
    have HR3 := Lib.hid ((HR18.out.below (hb3.mono hB2)))
    have HO3 := Lib.hid (own_below' HO2.out hb3)
    have HO2K := HO2
    have hsz3 := hb3.size
    refine tail_val2 (w1 := w3) (v := .slice (some ⟨w2.heap.size, 0, none⟩) 184 184) (some 16) rfl rfl rfl ?rv1 hb3 ?_
    case rv1 => exact mk_run rfl rfl rfl hm3
    refine ⟨w2.heap.size, Nat.le_refl _, ?_⟩
    refine tail_last (l := ?la) (t := ?tl) ?hla ?htl ?_
    case hla => rfl
    case htl => simp only [pick, List.getElem?_toArray, List.getElem?_cons_succ, List.getElem?_cons_zero]; rfl
    refine wpQuiet_nil ?_
    simp only [Act.put, List.setIfInBounds_toArray, List.set_cons_zero, List.set_cons_succ]
    have OWN3 := Lib.hid own3
    have HB23 := Lib.hid hb3
    have hbase : w2.heap.size ≤ w3.heap.size := hsz3
    clear hm3 hw3 hb3 own3 HMK HCA HO2 HR18 HB2
    go_wp2_with (first
      | (at_builtin; go_must (refine append_bytes rfl (.tmp 16) (.tmp 18) 24 5 rfl Try.underlying24 u8_infb w2.heap.size (.slice (some ⟨w2.heap.size, 0, none⟩) 184 184) 184 z rfl OWN3.out B0 A18 (bs.length - 184) (ca - 184) (bs.drop 184) rfl HR3.out HA18.out (by omega) hbase ?_); intro x4 w4 own4 hb4 gr4; have OWN4 := Lib.hid own4; have HB4 := Lib.hid hb4; clear own4 hb4 gr4)
      | fail)
    have e184 : 184 + (bs.length - 184) = bs.length := by omega
    have own4 := OWN4.out
    rw [e184] at own4
    obtain ⟨g6, c6, rfl, hc6, hr6⟩ := own_rd own4 (by omega)
    have HG6 : Hid (B0 ≤ g6) := Nat.le_trans hB2 (OWN4.out.lt g6 rfl).1
    have HR6 := Lib.hid hr6
    have HB0' : Hid (Below B0 w w4) := HB3.out.trans (HB4.out.mono hB2)
    have HO4 : Hid (w4.ownsRow B0 47 3 (.slice A4 l.length c4) l.length (flatK l)) := by
      have h24 : Below w2.heap.size w2 w4 := HB23.out.trans HB4.out
      exact own_below' HO2K.out h24
    clear own4 OWN4 OWN3 HB3 HB4 HR3 HO3 hr6
    go_loopw [6, 7] (fun q t wr => ∃ (j : Nat) (A6 : Option Addr) (c6 : Nat) (out : List UInt8), q = .slice A6 bs.length c6 ∧ t = .int .i64 (j : Int) ∧ j ≤ l.length ∧ out = (l.take j).foldl rebF (z ++ bs.drop 184) ∧ Rd wr wr.heap.size A6 bs.length out ∧ bs.length ≤ c6 ∧ KO S A6 c6 ∧ wr.ownsRow B0 47 3 (.slice A4 l.length c4) l.length (flatK l) ∧ Below B0 w wr) (fun _ t _ => l.length - (intOf t).toNat)
    case atStart => exact ⟨0, _, c6, _, rfl, rfl, Nat.zero_le _, rfl, HR6.out, hc6, ⟨(fun h => by cases h), fun a e => by cases e; exact hS _ (show w.heap.size ≤ g6 by have := HG6.out; have := HB0.out; omega)⟩, HO4.out, HB0'.out⟩
    case round =>
      obtain ⟨j, A6, c6, out, rfl, rfl, hj, hout, hr6, hc6, hA6, ho4, hb⟩ := hrel
      have hBw : B0 ≤ wr.heap.size := by have := hb.size; have := HB0.out; omega
      by_cases hlt : j < l.length
      · obtain ⟨x, hx⟩ : ∃ x, l[j]? = some x := ⟨l[j], List.getElem?_eq_getElem hlt⟩
        obtain ⟨b, o, rfl, hbb, hc⟩ := own_bks ho4 rfl (by omega)
        obtain ⟨p0, p1, p2⟩ := hc j x hx
        have hg := HMEM.out x (List.mem_of_getElem? hx)
        obtain ⟨_, _, _, q3, _⟩ := getB_some hg
        have hnext : (l.take (j + 1)).foldl rebF (z ++ bs.drop 184) = rebF out x := by
          rw [List.take_add_one, hx, List.foldl_append, ← hout]; rfl
        obtain ⟨xo, xs, xu⟩ := x
        dsimp only at p0 p1 p2 q3
        have HN := Lib.hid hnext
        have HO := Lib.hid ho4
        have HRB := Lib.hid hb
        have HR6' := Lib.hid hr6
        cases xu with
        | true =>
          have HN' : Hid ((l.take (j + 1)).foldl rebF (z ++ bs.drop 184) = out) := hnext
          clear hc hx hg hnext ho4 hb hr6 hout HN
          go_wp2
          go_roundw
          case rel => exact ⟨j + 1, A6, c6, out, rfl, by go_num, by omega, HN'.out.symm, HR6'.out, hc6, hA6, HO.out, HRB.out⟩
          case measure => simp only [intOf]; omega
        | false =>
          obtain ⟨y, hy⟩ : ∃ y, putB out (xo : Int) = y := ⟨_, rfl⟩
          have HN' : Hid ((l.take (j + 1)).foldl rebF (z ++ bs.drop 184) = y.getD out) := by
            rw [hnext, ← hy]; rfl
          have HP := Lib.hid (rput_any wr S (fun k h => hS k (Nat.le_trans (by have := hb.size; have := HB0.out; omega) h)) A6 c6 out bs.length hr6.1 hr6 hc6 hA6 hl (xo : Int) (by omega) y hy)
          clear hc hx hg hnext ho4 hb hr6 hout HN hy
          go_wp2_with fail
          with_reducible refine HP.out.mono ?_
          rintro e w5 ⟨A', c', rfl, hr', hn', hA', hb5⟩
          have HO5 := Lib.hid (own_below' HO.out hb5)
          have HRB5 := Lib.hid (HRB.out.trans (hb5.mono hBw))
          have HR5 := Lib.hid hr'
          clear hb5 hr' HP HO HRB
          go_wp2
          go_roundw
          case rel => exact ⟨j + 1, A', c', _, rfl, by go_num, by omega, HN'.out.symm, HR5.out, hn', hA', HO5.out, HRB5.out⟩
          case measure => simp only [intOf]; omega
      · obtain hjl : j = l.length := by omega
        have hfin : out = l.foldl rebF (z ++ bs.drop 184) := by rw [hout, hjl, List.take_length]
        have HF := Lib.hid hfin
        have HRB := Lib.hid hb
        have HR6' := Lib.hid hr6
        clear hfin hout hb hr6 ho4
        go_wp2
        go_ret2
        exact ⟨A6, c6, rfl, by rw [← HF.out]; exact HR6'.out, hc6, hA6, by rw [HB0.out]; exact HRB.out⟩
end
end Go.Proofs.Ytjokbjmfnidmjaa

/- What the law's own Bytes tells (of layers 9, 10): some bytes, so many. -/
namespace Go.Proofs.Ytjokbjmfnidmjaa
open Go.RowKit

/-- Some bytes, so many. -/
def SomeB (n : Nat) (w : World) (e : Ending) (w' : World) : Prop :=
  ∃ A' c' bs, e = .returned (.slice A' n c') ∧ Rd w' w'.heap.size A' n bs ∧ n ≤ c' ∧ (A' = none → c' = 0) ∧ Below w.heap.size w w'

section
variable (w : World)
set_option maxRecDepth 100000 in
set_option maxHeartbeats 2000000 in
theorem lbytes_1 (n : Nat) (hn1 : 1 ≤ n) (hn : n ≤ 2000) (A : Option Addr) (c : Nat) (l : List La) (hL : LaRd w w.heap.size A l) (hl : l.length ≤ 1000) :
    Calls Try.prog 6 #[.int .i64 (n : Int), .slice A l.length c] w fun e w' => SomeB n w e w' := by
  obtain ⟨z, hz⟩ : ∃ z, List.replicate n (0 : UInt8) = z := ⟨_, rfl⟩
  have hzl : z.length = n := by rw [← hz]; simp
  have HMK : ∀ W : World, (Instr.makeSlice 24 (.int .i64 (n : Int)) (.int .i64 (n : Int))).run Try.prog W = .ok (.slice (some ⟨W.heap.size, 0, none⟩) n n) (W.alloc (.cells (rowB z) 5)) := run_mk0 n (by omega) z hz
  have f1 : Fill (w.alloc (.cells (rowB z) 5)) w.heap.size 5 z := Fill.made w _ _
  have r1 := f1.reads
  rw [hzl] at r1
  have HR1 := Lib.hid r1
  obtain ⟨B0, hB0⟩ : ∃ B0, w.heap.size = B0 := ⟨_, rfl⟩
  have HB0 := Lib.hid hB0
  have HL := Lib.hid hL
  have HN1 := Lib.hid hn1
  have HP : Hid (∀ a : Int, ∃ p : Nat, p ≤ 2000 ∧ ∀ W : World, Calls Try.prog 15 #[.int .i64 a, .int .i64 (n : Int)] W fun e w' => e = .returned (.int .i64 (p : Int)) ∧ W = w') := fun a => by
    have h1 := Int.emod_nonneg a (b := (n : Int)) (by omega)
    have h2 := Int.emod_lt_of_pos a (b := (n : Int)) (by omega)
    exact ⟨_, by omega, fun W => lpick_any a (n : Nat) W (by omega) (by omega) _ rfl⟩
  have HP4 : Hid (∀ a : Int, ∃ p : Nat, p ≤ 4 ∧ ∀ W : World, Calls Try.prog 15 #[.int .i64 a, .int .i64 4] W fun e w' => e = .returned (.int .i64 (p : Int)) ∧ W = w') := fun a => by
    have h1 := Int.emod_nonneg a (b := 4) (by omega)
    have h2 := Int.emod_lt_of_pos a (b := 4) (by omega)
    exact ⟨_, by omega, fun W => lpick_any a 4 W (by omega) (by omega) _ rfl⟩
  clear hz r1 f1 hL hB0 hn1
  go_enter Try.func6, Try.ntmps6
  go_wp2
  go_loopw [5, 6] (fun q t wr => ∃ (j : Nat) (A5 : Option Addr) (c5 : Nat) (out : List UInt8), q = .slice A5 n c5 ∧ t = .int .i64 (j : Int) ∧ j ≤ l.length ∧ Rd wr wr.heap.size A5 n out ∧ n ≤ c5 ∧ (A5 = none → c5 = 0) ∧ Below B0 w wr) (fun _ t _ => l.length - (intOf t).toNat)
  case atStart => exact ⟨0, _, n, z, rfl, rfl, Nat.zero_le _, HR1.out.more (by simp), Nat.le_refl _, (fun h => by cases h), (Below.refl _ _).alloc (Nat.le_of_eq HB0.out.symm) _⟩
  case round =>
    obtain ⟨j, A5, c5, out, rfl, rfl, hj, hr5, hc5, hA5, hb⟩ := hrel
    have hBw : B0 ≤ wr.heap.size := by have := hb.size; have := HB0.out; omega
    by_cases hlt : j < l.length
    · obtain ⟨x, hx⟩ : ∃ x, l[j]? = some x := ⟨l[j], List.getElem?_eq_getElem hlt⟩
      have hLr : LaRd wr w.heap.size A l := HL.out.below (by rw [HB0.out]; exact hb)
      obtain ⟨b, o, rfl, hbb, hc⟩ := hLr (by omega)
      obtain ⟨p0, p1, p2, k0, k1, k2⟩ := hc j x hx
      obtain ⟨wh, at_, v⟩ := x
      dsimp only at p0 p1 p2 k0 k1 k2
      have HB := Lib.hid hb
      have HR5 := Lib.hid hr5
      obtain ⟨p, hp, hP⟩ := HP.out at_
      obtain ⟨p4, hp4, hP4⟩ := HP4.out wh
      have HPP := Lib.hid hP
      have HPP4 := Lib.hid hP4
      clear hc hx hLr hb hr5 HMK hP hP4 HP HP4
      go_wp2_with fail
      all_goals try (exfalso; have := HN1.out; omega)
      refine (HPP.out _).mono ?_
      rintro e w2 ⟨rfl, rfl⟩
      obtain ⟨w3, hw3⟩ : ∃ w3, wr.alloc (.cells #[.int .i64 wh, .int .i64 at_, .int .u64 (v : Int)] 54) = w3 := ⟨_, rfl⟩
      have hb3 : Below wr.heap.size wr w3 := by rw [← hw3]; exact (Below.refl _ _).alloc (Nat.le_refl _) _
      have n3 : w3.heap[wr.heap.size]? = some (.cells #[.int .i64 wh, .int .i64 at_, .int .u64 (v : Int)] 54 (0, 0)) := by rw [← hw3]; exact heap_alloc_new wr _
      obtain ⟨⟨c0, c1, c2⟩, _⟩ := blk_cells n3
      have hr3 := (HR5.out.below hb3).more hb3.size
      have HR3 := Lib.hid hr3
      have HB3 := Lib.hid (HB.out.trans (hb3.mono hBw))
      have hB3 : B0 ≤ w3.heap.size := Nat.le_trans hBw hb3.size
      obtain ⟨g, hg⟩ : ∃ g, wr.heap.size = g := ⟨_, rfl⟩
      have hg3 : g < w3.heap.size := by rw [← hg]; exact heap_lt' n3
      rw [hw3]
      rw [hg] at c0 c1 c2 ⊢
      clear hb3 n3 hr3 HR5 HB hw3 p0 p1 p2 HPP
      by_cases he : wh.tmod 2 = 0
      · have e1 : (wh.tmod 2 == 0) = true := by rw [he]; rfl
        have e2 : (wh.tmod 2 != 0) = false := by rw [he]; rfl
        clear HPP4
        by_cases hf : p + 8 ≤ n
        · have f1 : decide (p + 8 ≤ n) = true := decide_eq_true hf
          have hlen := HR3.out.1
          have HC := rlay_any w3 A5 c5 w3.heap.size out (by rw [hlen]; exact HR3.out) (Nat.le_refl _) hA5 (by omega) p v k2 (by omega)
          rw [hlen] at HC
          have HC := Lib.hid HC
          have HLEN := Lib.hid hlen
          have HLL := Lib.hid (layN_length out p v (by omega))
          clear hlen he
          go_wp2_with fail
          refine HC.out.mono ?_
          rintro e w4 ⟨A', c', rfl, ho4, hb4⟩
          have h4 := own_facts ho4
          have hll : (layN out p v).length = n := HLL.out.trans HLEN.out
          rw [hll] at h4 ⊢
          have H4 := Lib.hid h4
          have HB4 := Lib.hid (HB3.out.trans (hb4.mono hB3))
          have c0' := (hb4.cell (p := ⟨g, 0, none⟩) hg3).trans c0
          clear ho4 h4 hb4 HC c0 c1 c2 hll
          go_wp2
          go_roundw
          case rel => exact ⟨j + 1, A', c', _, rfl, by go_num, by omega, H4.out.1, H4.out.2.1, H4.out.2.2, HB4.out⟩
          case measure => simp only [intOf]; omega
        · have f1 : decide (p + 8 ≤ n) = false := decide_eq_false hf
          clear he
          go_wp2
          go_roundw
          case rel => exact ⟨j + 1, A5, c5, out, rfl, by go_num, by omega, HR3.out, hc5, hA5, HB3.out⟩
          case measure => simp only [intOf]; omega
      · have e1 : (wh.tmod 2 == 0) = false := beq_eq_false_iff_ne.2 he
        have e2 : (wh.tmod 2 != 0) = true := bne_iff_ne.2 he
        clear he
        go_wp2_with fail
        refine wp_region_tail w3.heap.size [([0, 1, 2, 3, 4, 5, 6, 7], 8), ([9, 10], 11)] [12, 13, 14, 15] [] (by kernel_rfl) (by kernel_rfl) (by kernel_rfl) (fun _ _ _ _ _ h => h) ?_
        obtain ⟨w4, hw4⟩ : ∃ w4, w3.drew = w4 := ⟨_, rfl⟩
        have hz4 : w3.heap.size = w4.heap.size := by rw [← hw4]; rfl
        have HR4 : Hid (Rd w4 w4.heap.size A5 n out) := by rw [← hw4]; exact HR3.out
        have HB4 : Hid (Below B0 w w4) := by rw [← hw4]; exact HB3.out.drew
        have hg4 : g < w4.heap.size := by rw [← hz4]; exact hg3
        have d0 : ∀ z : LaterB w4.heap.size w4, z.val.cell? ⟨g, 0, none⟩ = some (.int .i64 wh) := fun z => (z.ext.cell (p := ⟨g, 0, none⟩) hg4).trans (by rw [← hw4]; exact c0)
        have d2 : ∀ z : LaterB w4.heap.size w4, z.val.cell? ⟨g, 2, none⟩ = some (.int .u64 (v : Int)) := fun z => (z.ext.cell (p := ⟨g, 2, none⟩) hg4).trans (by rw [← hw4]; exact c2)
        have c0' : w4.cell? ⟨g, 0, none⟩ = some (.int .i64 wh) := by rw [← hw4]; exact c0
        rw [hw4, hz4]
        rw [hz4] at hB3
        clear hw4 HR3 HB3 c0 c1 c2
        refine tail_cons (l := ?seg1) ?hseg1 ?_
        case hseg1 => simp only [pick, List.getElem?_toArray, List.getElem?_cons_succ, List.getElem?_cons_zero]; rfl
        repeat (go_big_quiet_step (fail))
        refine wpQuiet_nil ?_
        refine tail_call (vs := #[.int .i64 wh, .int .i64 4]) Try.call15 rfl rfl rfl (R := fun r w' => r = .int .i64 (p4 : Int)) ((HPP4.out w4).mono ?_) w4.heap.size (Nat.le_refl _) ?_
        · rintro e w' ⟨rfl, rfl⟩
          exact ⟨_, rfl, Below.refl _ _, rfl⟩
        rintro r w5 hb5 rfl
        have HR5 := Lib.hid ((HR4.out.below hb5).more hb5.size)
        have HB5 := Lib.hid (HB4.out.trans (hb5.mono hB3))
        have c05 := (hb5.cell (p := ⟨g, 0, none⟩) hg4).trans c0'
        have hs5 := hb5.size
        clear d0 d2 c0' HR4 HB4 HPP4 hb5
        refine tail_cons (l := ?seg2) ?hseg2 ?_
        case hseg2 => simp only [pick, List.getElem?_toArray, List.getElem?_cons_succ, List.getElem?_cons_zero]; rfl
        simp only [Act.put, List.setIfInBounds_toArray, List.set_cons_zero, List.set_cons_succ]
        repeat (go_big_quiet_step (fail))
        refine wpQuiet_nil ?_
        obtain ⟨sz, hsz⟩ : ∃ sz : Int, (v : Int) % 20000 = sz := ⟨_, rfl⟩
        have hsz0 : 0 ≤ sz ∧ sz < 20000 := by omega
        obtain ⟨u, hu⟩ : ∃ u : Bool, ((p4 : Int) == 3) = u := ⟨_, rfl⟩
        rw [hsz, hu]
        clear hsz hu
        have hlen := HR5.out.1
        obtain ⟨y, hy⟩ : ∃ y, setB out (p : Int) sz u = y := ⟨_, rfl⟩
        have HC := rsetB_any w5 A5 c5 out (by rw [hlen]; exact HR5.out) (by omega) hA5 (by omega) (p : Int) sz u (by omega) (by omega) y hy
        rw [hlen] at HC
        have hyl : (y.getD out).length = n := by
          cases y with
          | none => exact hlen
          | some y => exact (setB_length hy).trans hlen
        refine tail_call (vs := #[.slice A5 n c5, .agg #[.int .i64 (p : Int), .int .i64 sz, .bool u]]) Try.call20 rfl rfl rfl (R := fun r w' => ∃ A' c' ok out', r = .tuple #[.slice A' n c', .bool ok] ∧ Rd w' w'.heap.size A' n out' ∧ n ≤ c' ∧ (A' = none → c' = 0)) (HC.mono ?_) w4.heap.size (Nat.le_refl _) ?_
        · rintro e w' ⟨A', c', rfl, r1, r2, r3, r4⟩
          rw [hyl] at r1 r2 ⊢
          exact ⟨_, rfl, r4.mono hs5, A', c', _, _, rfl, r1, r2, r3⟩
        rintro r w6 hb6 ⟨A', c', ok, out', rfl, r1, r2, r3⟩
        have HR6 := Lib.hid r1
        have HB6 := Lib.hid (HB5.out.trans (hb6.mono hB3))
        clear r1 hb6 HC hy hyl hlen HR5 HB5
        refine tail_last (l := ?la3) (t := []) ?hla3 ?htl3 ?_
        case hla3 => simp only [pick, List.getElem?_toArray, List.getElem?_cons_succ, List.getElem?_cons_zero]; rfl
        case htl3 => rfl
        simp only [Act.put, List.setIfInBounds_toArray, List.set_cons_zero, List.set_cons_succ]
        repeat (go_big_quiet_step (fail))
        refine wpQuiet_nil ?_
        go_wp2
        go_roundw
        case rel => exact ⟨j + 1, A', c', out', rfl, by go_num, by omega, HR6.out, r2, r3, HB6.out⟩
        case measure => simp only [intOf]; omega
    · have HB := Lib.hid hb
      have HR5 := Lib.hid hr5
      clear hb hr5 HMK
      go_wp2
      go_ret
      exact ⟨A5, c5, out, rfl, HR5.out, hc5, hA5, by rw [HB0.out]; exact HB.out⟩
set_option maxRecDepth 100000 in
set_option maxHeartbeats 2000000 in
theorem lbytes_0 (n : Nat) (hn1 : n < 1) (hn : n ≤ 2000) (A : Option Addr) (c : Nat) (l : List La) (hL : LaRd w w.heap.size A l) (hl : l.length ≤ 1000) :
    Calls Try.prog 6 #[.int .i64 (n : Int), .slice A l.length c] w fun e w' => SomeB n w e w' := by
  obtain ⟨z, hz⟩ : ∃ z, List.replicate n (0 : UInt8) = z := ⟨_, rfl⟩
  have hzl : z.length = n := by rw [← hz]; simp
  have HMK : ∀ W : World, (Instr.makeSlice 24 (.int .i64 (n : Int)) (.int .i64 (n : Int))).run Try.prog W = .ok (.slice (some ⟨W.heap.size, 0, none⟩) n n) (W.alloc (.cells (rowB z) 5)) := run_mk0 n (by omega) z hz
  have f1 : Fill (w.alloc (.cells (rowB z) 5)) w.heap.size 5 z := Fill.made w _ _
  have r1 := f1.reads
  rw [hzl] at r1
  have HR1 := Lib.hid r1
  obtain ⟨B0, hB0⟩ : ∃ B0, w.heap.size = B0 := ⟨_, rfl⟩
  have HB0 := Lib.hid hB0
  have HL := Lib.hid hL
  have HN1 := Lib.hid hn1
  have HP : Hid (∀ a : Int, ∃ p : Nat, p ≤ 2000 ∧ ∀ W : World, Calls Try.prog 15 #[.int .i64 a, .int .i64 1] W fun e w' => e = .returned (.int .i64 (p : Int)) ∧ W = w') := fun a => by
    have h1 := Int.emod_nonneg a (b := 1) (by omega)
    have h2 := Int.emod_lt_of_pos a (b := 1) (by omega)
    exact ⟨_, by omega, fun W => lpick_any a (1 : Nat) W (by omega) (by omega) _ rfl⟩
  have HP4 : Hid (∀ a : Int, ∃ p : Nat, p ≤ 4 ∧ ∀ W : World, Calls Try.prog 15 #[.int .i64 a, .int .i64 4] W fun e w' => e = .returned (.int .i64 (p : Int)) ∧ W = w') := fun a => by
    have h1 := Int.emod_nonneg a (b := 4) (by omega)
    have h2 := Int.emod_lt_of_pos a (b := 4) (by omega)
    exact ⟨_, by omega, fun W => lpick_any a 4 W (by omega) (by omega) _ rfl⟩
  clear hz r1 f1 hL hB0 hn1
  go_enter Try.func6, Try.ntmps6
  go_wp2
  go_loopw [5, 6] (fun q t wr => ∃ (j : Nat) (A5 : Option Addr) (c5 : Nat) (out : List UInt8), q = .slice A5 n c5 ∧ t = .int .i64 (j : Int) ∧ j ≤ l.length ∧ Rd wr wr.heap.size A5 n out ∧ n ≤ c5 ∧ (A5 = none → c5 = 0) ∧ Below B0 w wr) (fun _ t _ => l.length - (intOf t).toNat)
  case atStart => exact ⟨0, _, n, z, rfl, rfl, Nat.zero_le _, HR1.out.more (by simp), Nat.le_refl _, (fun h => by cases h), (Below.refl _ _).alloc (Nat.le_of_eq HB0.out.symm) _⟩
  case round =>
    obtain ⟨j, A5, c5, out, rfl, rfl, hj, hr5, hc5, hA5, hb⟩ := hrel
    have hBw : B0 ≤ wr.heap.size := by have := hb.size; have := HB0.out; omega
    by_cases hlt : j < l.length
    · obtain ⟨x, hx⟩ : ∃ x, l[j]? = some x := ⟨l[j], List.getElem?_eq_getElem hlt⟩
      have hLr : LaRd wr w.heap.size A l := HL.out.below (by rw [HB0.out]; exact hb)
      obtain ⟨b, o, rfl, hbb, hc⟩ := hLr (by omega)
      obtain ⟨p0, p1, p2, k0, k1, k2⟩ := hc j x hx
      obtain ⟨wh, at_, v⟩ := x
      dsimp only at p0 p1 p2 k0 k1 k2
      have HB := Lib.hid hb
      have HR5 := Lib.hid hr5
      obtain ⟨p, hp, hP⟩ := HP.out at_
      obtain ⟨p4, hp4, hP4⟩ := HP4.out wh
      have HPP := Lib.hid hP
      have HPP4 := Lib.hid hP4
      clear hc hx hLr hb hr5 HMK hP hP4 HP HP4
      go_wp2_with fail
      all_goals try (exfalso; have := HN1.out; omega)
      refine (HPP.out _).mono ?_
      rintro e w2 ⟨rfl, rfl⟩
      obtain ⟨w3, hw3⟩ : ∃ w3, wr.alloc (.cells #[.int .i64 wh, .int .i64 at_, .int .u64 (v : Int)] 54) = w3 := ⟨_, rfl⟩
      have hb3 : Below wr.heap.size wr w3 := by rw [← hw3]; exact (Below.refl _ _).alloc (Nat.le_refl _) _
      have n3 : w3.heap[wr.heap.size]? = some (.cells #[.int .i64 wh, .int .i64 at_, .int .u64 (v : Int)] 54 (0, 0)) := by rw [← hw3]; exact heap_alloc_new wr _
      obtain ⟨⟨c0, c1, c2⟩, _⟩ := blk_cells n3
      have hr3 := (HR5.out.below hb3).more hb3.size
      have HR3 := Lib.hid hr3
      have HB3 := Lib.hid (HB.out.trans (hb3.mono hBw))
      have hB3 : B0 ≤ w3.heap.size := Nat.le_trans hBw hb3.size
      obtain ⟨g, hg⟩ : ∃ g, wr.heap.size = g := ⟨_, rfl⟩
      have hg3 : g < w3.heap.size := by rw [← hg]; exact heap_lt' n3
      rw [hw3]
      rw [hg] at c0 c1 c2 ⊢
      clear hb3 n3 hr3 HR5 HB hw3 p0 p1 p2 HPP
      by_cases he : wh.tmod 2 = 0
      · have e1 : (wh.tmod 2 == 0) = true := by rw [he]; rfl
        have e2 : (wh.tmod 2 != 0) = false := by rw [he]; rfl
        clear HPP4
        by_cases hf : p + 8 ≤ n
        · exfalso; have := HN1.out; omega
        · have f1 : decide (p + 8 ≤ n) = false := decide_eq_false hf
          clear he
          go_wp2
          go_roundw
          case rel => exact ⟨j + 1, A5, c5, out, rfl, by go_num, by omega, HR3.out, hc5, hA5, HB3.out⟩
          case measure => simp only [intOf]; omega
      · have e1 : (wh.tmod 2 == 0) = false := beq_eq_false_iff_ne.2 he
        have e2 : (wh.tmod 2 != 0) = true := bne_iff_ne.2 he
        clear he
        go_wp2_with fail
        refine wp_region_tail w3.heap.size [([0, 1, 2, 3, 4, 5, 6, 7], 8), ([9, 10], 11)] [12, 13, 14, 15] [] (by kernel_rfl) (by kernel_rfl) (by kernel_rfl) (fun _ _ _ _ _ h => h) ?_
        obtain ⟨w4, hw4⟩ : ∃ w4, w3.drew = w4 := ⟨_, rfl⟩
        have hz4 : w3.heap.size = w4.heap.size := by rw [← hw4]; rfl
        have HR4 : Hid (Rd w4 w4.heap.size A5 n out) := by rw [← hw4]; exact HR3.out
        have HB4 : Hid (Below B0 w w4) := by rw [← hw4]; exact HB3.out.drew
        have hg4 : g < w4.heap.size := by rw [← hz4]; exact hg3
        have d0 : ∀ z : LaterB w4.heap.size w4, z.val.cell? ⟨g, 0, none⟩ = some (.int .i64 wh) := fun z => (z.ext.cell (p := ⟨g, 0, none⟩) hg4).trans (by rw [← hw4]; exact c0)
        have d2 : ∀ z : LaterB w4.heap.size w4, z.val.cell? ⟨g, 2, none⟩ = some (.int .u64 (v : Int)) := fun z => (z.ext.cell (p := ⟨g, 2, none⟩) hg4).trans (by rw [← hw4]; exact c2)
        have c0' : w4.cell? ⟨g, 0, none⟩ = some (.int .i64 wh) := by rw [← hw4]; exact c0
        rw [hw4, hz4]
        rw [hz4] at hB3
        clear hw4 HR3 HB3 c0 c1 c2
        refine tail_cons (l := ?seg1) ?hseg1 ?_
        case hseg1 => simp only [pick, List.getElem?_toArray, List.getElem?_cons_succ, List.getElem?_cons_zero]; rfl
        repeat (go_big_quiet_step (fail))
        refine wpQuiet_nil ?_
        refine tail_call (vs := #[.int .i64 wh, .int .i64 4]) Try.call15 rfl rfl rfl (R := fun r w' => r = .int .i64 (p4 : Int)) ((HPP4.out w4).mono ?_) w4.heap.size (Nat.le_refl _) ?_
        · rintro e w' ⟨rfl, rfl⟩
          exact ⟨_, rfl, Below.refl _ _, rfl⟩
        rintro r w5 hb5 rfl
        have HR5 := Lib.hid ((HR4.out.below hb5).more hb5.size)
        have HB5 := Lib.hid (HB4.out.trans (hb5.mono hB3))
        have c05 := (hb5.cell (p := ⟨g, 0, none⟩) hg4).trans c0'
        have hs5 := hb5.size
        clear d0 d2 c0' HR4 HB4 HPP4 hb5
        refine tail_cons (l := ?seg2) ?hseg2 ?_
        case hseg2 => simp only [pick, List.getElem?_toArray, List.getElem?_cons_succ, List.getElem?_cons_zero]; rfl
        simp only [Act.put, List.setIfInBounds_toArray, List.set_cons_zero, List.set_cons_succ]
        repeat (go_big_quiet_step (fail))
        refine wpQuiet_nil ?_
        obtain ⟨sz, hsz⟩ : ∃ sz : Int, (v : Int) % 20000 = sz := ⟨_, rfl⟩
        have hsz0 : 0 ≤ sz ∧ sz < 20000 := by omega
        obtain ⟨u, hu⟩ : ∃ u : Bool, ((p4 : Int) == 3) = u := ⟨_, rfl⟩
        rw [hsz, hu]
        clear hsz hu
        have hlen := HR5.out.1
        obtain ⟨y, hy⟩ : ∃ y, setB out (p : Int) sz u = y := ⟨_, rfl⟩
        have HC := rsetB_any w5 A5 c5 out (by rw [hlen]; exact HR5.out) (by omega) hA5 (by omega) (p : Int) sz u (by omega) (by omega) y hy
        rw [hlen] at HC
        have hyl : (y.getD out).length = n := by
          cases y with
          | none => exact hlen
          | some y => exact (setB_length hy).trans hlen
        refine tail_call (vs := #[.slice A5 n c5, .agg #[.int .i64 (p : Int), .int .i64 sz, .bool u]]) Try.call20 rfl rfl rfl (R := fun r w' => ∃ A' c' ok out', r = .tuple #[.slice A' n c', .bool ok] ∧ Rd w' w'.heap.size A' n out' ∧ n ≤ c' ∧ (A' = none → c' = 0)) (HC.mono ?_) w4.heap.size (Nat.le_refl _) ?_
        · rintro e w' ⟨A', c', rfl, r1, r2, r3, r4⟩
          rw [hyl] at r1 r2 ⊢
          exact ⟨_, rfl, r4.mono hs5, A', c', _, _, rfl, r1, r2, r3⟩
        rintro r w6 hb6 ⟨A', c', ok, out', rfl, r1, r2, r3⟩
        have HR6 := Lib.hid r1
        have HB6 := Lib.hid (HB5.out.trans (hb6.mono hB3))
        clear r1 hb6 HC hy hyl hlen HR5 HB5
        refine tail_last (l := ?la3) (t := []) ?hla3 ?htl3 ?_
        case hla3 => simp only [pick, List.getElem?_toArray, List.getElem?_cons_succ, List.getElem?_cons_zero]; rfl
        case htl3 => rfl
        simp only [Act.put, List.setIfInBounds_toArray, List.set_cons_zero, List.set_cons_succ]
        repeat (go_big_quiet_step (fail))
        refine wpQuiet_nil ?_
        go_wp2
        go_roundw
        case rel => exact ⟨j + 1, A', c', out', rfl, by go_num, by omega, HR6.out, r2, r3, HB6.out⟩
        case measure => simp only [intOf]; omega
    · have HB := Lib.hid hb
      have HR5 := Lib.hid hr5
      clear hb hr5 HMK
      go_wp2
      go_ret
      exact ⟨A5, c5, out, rfl, HR5.out, hc5, hA5, by rw [HB0.out]; exact HB.out⟩
theorem lbytes_any (n : Nat) (hn : n ≤ 2000) (A : Option Addr) (c : Nat) (l : List La) (hL : LaRd w w.heap.size A l) (hl : l.length ≤ 1000) :
    Calls Try.prog 6 #[.int .i64 (n : Int), .slice A l.length c] w fun e w' => SomeB n w e w' := by
  rcases Nat.lt_or_ge n 1 with h | h
  · exact lbytes_0 w n h hn A c l hL hl
  · exact lbytes_1 w n h hn A c l hL hl
end
end Go.Proofs.Ytjokbjmfnidmjaa
