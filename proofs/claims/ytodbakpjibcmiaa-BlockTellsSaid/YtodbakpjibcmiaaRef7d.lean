/- The contracts of the document's own blocks: Lay, Set. -/
import Derived.Test.YtodbakpjibcmiaaRef7c
import Derived.Test.YtodbakpjibcmiaaStore
import Derived.Test.YtodbakpjibcmiaaTail
namespace Go.Proofs.Ytodbakpjibcmiaa
open Go.RowKit

theorem u8_infb : (Try.prog.info? 5).map (fun i => (i.zero, i.size, i.bytes)) = some (some (.int .u8 0), 1, 1) := by kernel_rfl
/-- A number laid at an offset. -/
def layN (bs : List UInt8) (o v : Nat) : List UInt8 := lay bs o (lowB 8 v)
theorem layN_length (bs : List UInt8) (o v : Nat) (h : o + 8 ≤ bs.length) : (layN bs o v).length = bs.length := lay_length _ _ _ (by rw [lowB_length]; exact h)
theorem lay_snoc (bs cs : List UInt8) (d : Nat) (u : UInt8) (h : d + cs.length < bs.length) : (lay bs d cs).set (d + cs.length) u = lay bs d (cs ++ [u]) := by
  unfold lay
  have e1 : (bs.take d).length = d := by rw [List.length_take]; omega
  rw [List.set_append_right _ _ (by omega), List.set_append_right _ _ (by omega), e1, show d + cs.length - d - cs.length = 0 by omega, List.drop_eq_getElem_cons h, List.set_cons_zero, List.append_assoc, List.length_append]
  rfl
/-- A slice of bytes. -/
def RowTold (bs : List UInt8) (w : World) (e : Ending) (w' : World) : Prop :=
  ∃ A' c', e = .returned (.slice A' bs.length c') ∧ w'.ownsRow w.heap.size 5 1 (.slice A' bs.length c') bs.length (bs.map bv) ∧ Below w.heap.size w w'

section
variable (w : World)
set_option maxHeartbeats 1000000 in
theorem rlay_any (A : Option Addr) (c B : Nat) (bs : List UInt8) (hr : Rd w B A bs.length bs) (hB : B ≤ w.heap.size) (hA0 : A = none → c = 0) (hl : bs.length ≤ 100000) (o v : Nat) (hv : v < 18446744073709551616) (ho : o + 8 ≤ bs.length) :
    Calls Try.prog 35 #[.slice A bs.length c, .int .i64 (o : Int), .int .u64 (v : Int)] w fun e w' => RowTold (layN bs o v) w e w' := by
  have OWN1 : Hid ((w.alloc (.cells #[] 5)).ownsRow w.heap.size 5 1 (.slice (some ⟨w.heap.size, 0, none⟩) 0 0) 0 (([] : List UInt8).map bv)) := World.ownsRow_lit w _ 0 (Nat.le_refl _) (by unfold maxLen; omega) rfl
  have HRA := Lib.hid (hr.alloc hB (.cells #[] 5))
  have HV := Lib.hid hv
  obtain ⟨B0, hB0⟩ : ∃ B0, w.heap.size = B0 := ⟨_, rfl⟩
  rw [hB0] at OWN1
  have HB0 := Lib.hid hB0
  have hBB : B0 ≤ (w.alloc (.cells #[] 5)).heap.size := by simp; omega
  clear hr hv
  go_enter Try.func35, Try.ntmps35
  go_wp2_with (first
    | (at_builtin; go_must (refine append_bytes rfl (.tmp 10) (.tmp 11) 23 5 rfl Try.underlying23 u8_infb B0 (.slice (some ⟨B0, 0, none⟩) 0 0) 0 [] rfl OWN1.out B A bs.length c bs rfl HRA.out hA0 (by omega) hBB ?_); intro x3 w3 own3 hb3 gr3; have own4 : w3.ownsRow B0 5 1 x3 bs.length (bs.map bv) := (by simpa using own3); have OWN3 := Lib.hid own4; have HB3 : Hid (Below B0 w w3) := (((Below.refl _ _).alloc (Nat.le_of_eq hB0.symm) _).trans hb3); clear own3 own4 gr3 hb3)
    | fail)
  obtain ⟨ga, ca, rfl, hca, _⟩ := own_rd OWN3.out (by omega)
  go_wp2_with fail
  refine (rlow8 v w3 HV.out).mono ?_
  rintro e w4 ⟨gl, cl, rfl, hgl, rl, hb4⟩
  have own4 := own_below OWN3.out hb4
  have hga := (OWN3.out.lt ga rfl)
  have e0 : layN bs o v = lay bs o (lowB 8 v) := rfl
  have OWN4 : Hid (w4.ownsRow B0 5 1 (.slice (some ⟨ga, 0, none⟩) bs.length ca) bs.length ((lay bs o (lowB 0 v)).map bv)) := (show World.ownsRow _ _ _ _ _ _ _ by
    have : lay bs o (lowB 0 v) = bs := lay_nil bs o
    rw [this]; exact own4)
  have RL := Lib.hid rl
  have HB4 := Lib.hid (HB3.out.trans (hb4.mono (by have := HB3.out.size; omega)))
  have HSZ := Lib.hid hb4.size
  clear own4 rl hb4 OWN1 HRA OWN3 HB3 hBB e0
  go_wp2
  go_loopw [9] (fun i wr => ∃ j : Nat, j ≤ 8 ∧ i = .int .i64 j ∧ wr.ownsRow B0 5 1 (.slice (some ⟨ga, 0, none⟩) bs.length ca) bs.length ((lay bs o (lowB j v)).map bv) ∧ Rd wr wr.heap.size (some ⟨gl, 0, none⟩) 8 (lowB 8 v) ∧ Below B0 w wr) (fun i _ => 8 - (intOf i).toNat)
  case atStart => exact ⟨0, Nat.zero_le _, rfl, OWN4.out, RL.out, HB4.out⟩
  case round =>
    obtain ⟨j, hj, rfl, hown, hrl, hb⟩ := hrel
    by_cases hlt : j < 8
    · obtain ⟨_, _, e, _, hlen, hcell⟩ := hrl.at_ hlt
      injection e with e
      injection e with e1 e2
      subst e1 e2
      rw [Nat.zero_add] at hcell
      have hget := lowB_getElem 8 v j hlt
      rw [List.getElem?_eq_getElem hlen] at hget
      injection hget with hget
      rw [hget] at hcell
      have hst := (hown.stored (o + j) (bv (UInt8.ofNat (v / 256 ^ j % 256)))).1
      rw [← List.map_set] at hst
      have hsn := lay_snoc bs (lowB j v) o (UInt8.ofNat (v / 256 ^ j % 256)) (by rw [lowB_length]; omega)
      rw [lowB_length] at hsn
      rw [hsn, ← lowB_snoc] at hst
      have hfz := hown.frozenAt (o + j)
      have hc : ∃ u, wr.cell? ⟨ga, o + j, none⟩ = some u := by
        have hll : (lay bs o (lowB j v)).length = bs.length := lay_length _ _ _ (by rw [lowB_length]; omega)
        refine ⟨_, (hown.cellAt (o + j) (by omega)).trans (List.getElem?_eq_getElem (by rw [List.length_map, hll]; omega))⟩
      obtain ⟨u, hcu⟩ := hc
      have hne : gl ≠ ga := by omega
      have hrl' : Rd (wr.setCell ⟨ga, o + j, none⟩ (bv (UInt8.ofNat (v / 256 ^ j % 256)))) (wr.setCell ⟨ga, o + j, none⟩ (bv (UInt8.ofNat (v / 256 ^ j % 256)))).heap.size (some ⟨gl, 0, none⟩) 8 (lowB 8 v) :=
        hrl.tch (S := fun k => k = ga) (Tch.set (S := fun k => k = ga) wr ⟨ga, o + j, none⟩ _ rfl) (fun a e h => by injection e with e; subst e; exact hne h)
      have hb' : Below B0 w (wr.setCell ⟨ga, o + j, none⟩ (bv (UInt8.ofNat (v / 256 ^ j % 256)))) := hb.setCell hga.1 _
      obtain ⟨q, hq⟩ : ∃ q, UInt8.ofNat (v / 256 ^ j % 256) = q := ⟨_, rfl⟩
      rw [hq] at hcell hst hrl' hb'
      have hcell' : wr.cell? ⟨gl, j, none⟩ = some (.int .u8 (q.toNat : Int)) := hcell
      have HST : Hid ((wr.setCell ⟨ga, o + j, none⟩ (.int .u8 (q.toNat : Int))).ownsRow B0 5 1 (.slice (some ⟨ga, 0, none⟩) bs.length ca) bs.length ((lay bs o (lowB (j + 1) v)).map bv)) := hst
      have HRL : Hid (Rd (wr.setCell ⟨ga, o + j, none⟩ (.int .u8 (q.toNat : Int))) (wr.setCell ⟨ga, o + j, none⟩ (.int .u8 (q.toNat : Int))).heap.size (some ⟨gl, 0, none⟩) 8 (lowB 8 v)) := hrl'
      have HBE : Hid (Below B0 w (wr.setCell ⟨ga, o + j, none⟩ (.int .u8 (q.toNat : Int)))) := hb'
      clear hst hrl' hb' hq hcell hget hsn hown hrl hb OWN4 RL
      go_wp2
      go_roundw
      case rel => exact ⟨j + 1, by omega, by go_num, HST.out, HRL.out, HBE.out⟩
      case measure => simp [intOf]; omega
    · have HO := Lib.hid hown
      have HB := Lib.hid hb
      clear hown hb hrl OWN4 RL
      go_wp2
      go_ret
      obtain rfl : j = 8 := by omega
      have e := layN_length bs o v ho
      refine ⟨some ⟨ga, 0, none⟩, ca, by rw [e]; rfl, ?_, ?_⟩
      · rw [e, HB0.out]; exact HO.out
      · rw [HB0.out]; exact HB.out
end
end Go.Proofs.Ytodbakpjibcmiaa
