/- The contract of the document's example at the head of the laws of layer 3. -/
import Derived.Test.YtbalmacabojbpaaHelp
import Derived.Test.YtbalmacabojbpaaCopy
namespace Go.Proofs.Ytbalmacabojbpaa
open Go.RowKit

theorem Rd.own {w : World} {base n c : Nat} {A : Option Addr} {bs : List UInt8} (h : w.ownsRow base 5 1 (.slice A n c) n (bs.map bv)) : Rd w w.heap.size A n bs := by
  obtain ⟨A', c', e, _, hr⟩ := own_any h
  injection e with e1
  subst e1
  exact hr

abbrev lit21 : Obj := .cells #[.int .u8 2, .int .u8 1] 5
theorem conv21 (W : World) (c : Nat) : (convert 29 9 (.slice (some ⟨W.heap.size, 0, none⟩) 2 c)).run Try.prog (W.alloc lit21) = .ok (.string (strB [2, 1])) (W.alloc lit21) :=
  conv_rd (Fill.made W 5 [2, 1]).reads

theorem up_bytes : ((lay (List.replicate 8 0) 0 (lowB 8 258)).drop 0).take 2 = [2, 1] := by decide +kernel

set_option maxRecDepth 100000 in
set_option maxHeartbeats 2000000 in
theorem up3_any (w : World) :
    Calls Try.prog 6 #[] w fun e w' => e = .returned (.bool true) ∧ Below w.heap.size w w' := by
  have HN := Lib.hid (new_yes w 32 1024 (by omega) (by omega) (by omega) (by omega))
  go_enter Try.func6, Try.ntmps6
  go_wp2_with fail
  refine HN.out.mono ?_
  rintro e w1 ⟨rfl, ha1, hb1⟩
  have HG := Lib.hid (grow_ok ha1 8 (by simp) (by omega) (by simp))
  have HB1 := Lib.hid hb1
  clear ha1 hb1 HN
  go_wp2_with fail
  refine HG.out.mono ?_
  rintro e w2 ⟨rfl, hbe⟩
  rw [List.nil_append] at hbe
  obtain ⟨A2, c2, ha2, hb2, hA2⟩ := hbe.below (B := w.heap.size) (Nat.le_refl _) (fun a e => by cases e) HB1.out.size
  have HS := Lib.hid (setword_ok ha2 (by simp) 32 0 258 (by omega) (by omega) (by omega) (by omega) (by simp))
  have HB2 := Lib.hid (HB1.out.trans hb2)
  have HA2 := Lib.hid hA2
  clear hA2 ha2 hb2 hbe HB1 HG
  go_wp2_with fail
  refine HS.out.mono ?_
  rintro e w3 ⟨rfl, hbe⟩
  obtain ⟨A3, c3, ha3, hb3, hA3⟩ := hbe.below (B := w.heap.size) (Nat.le_refl _) HA2.out HB2.out.size
  have hlen : (lay (List.replicate 8 0) 0 (lowB 8 258)).length = 8 := by decide +kernel
  have hk := load_ok ha3 (by rw [hlen]; omega) 32 2 0 (by omega) (by omega) (by omega) (by rw [hlen]; omega)
  rw [up_bytes] at hk
  have HK := Lib.hid hk
  have HB3 := Lib.hid (HB2.out.trans hb3)
  have HA3 := Lib.hid ha3
  have HL := Lib.hid hlen
  clear hA3 ha3 hb3 hbe HB2 HS HA2 hk hlen
  go_wp2_with fail
  refine HK.out.mono ?_
  rintro e w4 ⟨A4, c4, rfl, ho4, hb4⟩
  have hk := load_no (HA3.out.below hb4) (by rw [HL.out]; omega) 33 8 (by omega) (by rw [HL.out]; omega)
  have r4 : Rd w4 w4.heap.size A4 2 [2, 1] := Rd.own ho4
  have HK2 := Lib.hid hk
  have HB4 := Lib.hid (HB3.out.trans (hb4.mono HB3.out.size))
  clear hk ho4 hb4 HB3 HA3 HL HK
  go_wp2_with fail
  refine HK2.out.mono ?_
  rintro e w5 ⟨rfl, rfl⟩
  have q1 := conv_rd (c := c4) r4
  have q2 := conv21 w4
  clear HK2
  go_wp2_with fail
  refine (code_err _ 2 (by omega) (by omega)).mono ?_
  rintro e w6 ⟨rfl, rfl⟩
  go_wp2_with fail
  refine (new_no _ 8 1024 (by omega) (by omega) (.inl (by omega))).mono ?_
  rintro e w6 ⟨rfl, rfl⟩
  clear q1 q2
  go_wp2
  go_ret
  exact ⟨rfl, HB4.out.alloc HB4.out.size _⟩
end Go.Proofs.Ytbalmacabojbpaa
