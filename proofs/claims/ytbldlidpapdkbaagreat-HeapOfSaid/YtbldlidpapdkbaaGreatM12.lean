/- Texts of mine, joined: Hea8, Law14a, Law14d. -/
import Derived.Great.BuildSlice
import Derived.Test.YtbldlidpapdkbaaGreatM11

/- The program's heap (layer 14): New, Of, Arena, Widen, Rebuild. -/
namespace Go.Proofs.YtbldlidpapdkbaaGreat
open Go.RowKit

/-- A new heap. -/
def PMade (base cap : Nat) (H : Hp) (w : World) (e : Ending) (w' : World) : Prop :=
  ∃ q g A c bs, e = .returned (.tuple #[.pointer (some ⟨q, 0, none⟩), .nilIface]) ∧ PH w' q g base cap A c bs H ∧ Below w.heap.size w w' ∧ w.heap.size ≤ q ∧ w.heap.size ≤ g ∧ ∀ a, A = some a → w.heap.size ≤ a.block
section
variable {w w' : World} {q g base cap c : Nat} {A : Option Addr} {bs out : List UInt8} {H H' : Hp}
set_option maxHeartbeats 1000000 in
theorem hnew_good (w : World) (base cap : Nat) (h1 : base % 16 = 0) (h2 : base ≤ 4611686018427387904) (h3 : 1024 ≤ cap) (h4 : cap ≤ 16384) :
    Calls Tryz.prog 13 #[.int .u64 (base : Int), .int .i64 (cap : Int)] w fun e w' => PMade base cap (hpZero cap) w e w' := by
  obtain ⟨z, hz⟩ : ∃ z, List.replicate 184 (0 : UInt8) = z := ⟨_, rfl⟩
  have HZ := Lib.hid (rtd_zero hz cap (by omega))
  have HN := Lib.hid (new_yes w base cap h1 h2 h3 h4)
  have hG : ∀ W g c A, Ar W 82 g base cap A c [] → Calls Tryz.prog 21 #[.pointer (some ⟨g, 0, none⟩), .int .i64 184] W fun e w' => e = .returned .nilIface ∧ Became 82 g base cap A z W w' := fun W g c A ha => by
    have := grow_ok ha 184 (by simp) h4 (by simp; omega)
    rw [List.nil_append, hz] at this
    exact this
  have HG := Lib.hid hG
  clear hG hz
  go_enter Tryz.func13, Tryz.ntmps13
  go_wp2_with fail
  refine HN.out.mono ?_
  rintro e w2 ⟨rfl, ha, hb⟩
  have HG2 := Lib.hid (HG.out w2 _ _ _ ha)
  have HB2 := Lib.hid hb
  have HL2 := Lib.hid ha.lt
  clear ha hb HG HN
  go_wp2_with fail
  refine HG2.out.mono ?_
  rintro e w3 ⟨rfl, A3, c3, a3, t3, m3⟩
  have hft : ∀ k, foot w.heap.size none k → w.heap.size ≤ k := fun k hk => by
    rcases hk with rfl | ⟨a, e, _⟩
    · exact Nat.le_refl _
    · exact absurd e (by nofun)
  have hb3 : Below w.heap.size w w3 := HB2.out.trans (t3.below hft HB2.out.size)
  have hA3 : ∀ a, A3 = some a → w.heap.size ≤ a.block := fun a e => by
    rcases m3 with h | h
    · rw [h] at e; cases e
    · exact Nat.le_trans HB2.out.size (h a e)
  obtain ⟨w4, hw4⟩ : ∃ w4, w3.alloc (.cells #[.pointer (some ⟨w.heap.size, 0, none⟩)] 58) = w4 := ⟨_, rfl⟩
  have hb4 : Below w3.heap.size w3 w4 := by rw [← hw4]; exact (Below.refl _ _).alloc (Nat.le_refl _) _
  have n4 : w4.heap[w3.heap.size]? = some (.cells #[.pointer (some ⟨w.heap.size, 0, none⟩)] 58 (0, 0)) := by rw [← hw4]; exact heap_alloc_new w3 _
  have HF : Hid (PMade base cap (hpZero cap) w (.returned (.tuple #[.pointer (some ⟨w3.heap.size, 0, none⟩), .nilIface])) w4) :=
    ⟨_, _, A3, c3, z, rfl, ⟨n4, a3.below hb4, HZ.out, rfl, h4, h2⟩, hb3.trans (hb4.mono hb3.size), hb3.size, Nat.le_refl _, hA3⟩
  have HW4 := Lib.hid hw4
  clear a3 t3 m3 hft hb3 hA3 hw4 hb4 n4 HG2 HB2 HL2
  go_wp2_with (first | (rw [HW4.out]) | fail)
  go_ret2
  exact HF.out
set_option maxHeartbeats 1000000 in
theorem hof_nil (w : World) : Calls Tryz.prog 7 #[.pointer none] w fun e w' => e = .returned (.tuple #[.pointer none, errN 1]) ∧ w = w' := by
  go_enter Tryz.func7, Tryz.ntmps7
  go_wp2
  go_ret2
  exact ⟨rfl, rfl⟩
set_option maxHeartbeats 1000000 in
theorem hof_bad (h : Ar w 82 g base cap A c bs) (hb : base ≤ 4611686018427387904) (hl : bs.length ≤ 16384) (hk : checkB bs = false) :
    Calls Tryz.prog 7 #[.pointer (some ⟨g, 0, none⟩)] w fun e w' => e = .returned (.tuple #[.pointer none, errN 3]) ∧ Below w.heap.size w w' := by
  have hC := checkC w g base cap c A bs _ h hb hl hk
  dsimp only [errV] at hC
  have HC := Lib.hid hC
  clear hC h
  go_enter Tryz.func7, Tryz.ntmps7
  go_wp2_with fail
  refine HC.out.mono ?_
  rintro e w2 ⟨rfl, hb2⟩
  have HB := Lib.hid hb2
  clear hb2 HC
  go_wp2
  go_ret2
  exact ⟨rfl, HB.out⟩
set_option maxHeartbeats 1000000 in
theorem hof_good (h : Ar w 82 g base cap A c bs) (hb : base ≤ 4611686018427387904) (hc : cap ≤ 16384) (hl : bs.length ≤ cap) (hk : checkB bs = true) :
    Calls Tryz.prog 7 #[.pointer (some ⟨g, 0, none⟩)] w fun e w' => ∃ H bs', PMade base cap H w e w' ∧ RtD bs' H ∧ bs' = bs ∧ ∃ q g A c, e = .returned (.tuple #[.pointer (some ⟨q, 0, none⟩), .nilIface]) ∧ PH w' q g base cap A c bs H := by
  have hC := checkC w g base cap c A bs _ h hb (by omega) hk
  dsimp only [errV] at hC
  obtain ⟨H, hR, hcp⟩ := rtd_of hk hl
  have HC := Lib.hid hC
  have HCL := Lib.hid (fun W (hb : Below w.heap.size w W) => clone_any (h.below hb) (by omega))
  have HR := Lib.hid hR
  have HCP := Lib.hid hcp
  clear hC hR hcp h
  go_enter Tryz.func7, Tryz.ntmps7
  go_wp2_with fail
  refine HC.out.mono ?_
  rintro e w2 ⟨rfl, hb2⟩
  have HC2 := Lib.hid (HCL.out w2 hb2)
  have HB2 := Lib.hid hb2
  clear hb2 HC HCL
  go_wp2_with fail
  refine HC2.out.mono ?_
  rintro e w3 ⟨g3, A3, c3, rfl, a3, hb3, k1, k2⟩
  obtain ⟨w4, hw4⟩ : ∃ w4, w3.alloc (.cells #[.pointer (some ⟨g3, 0, none⟩)] 58) = w4 := ⟨_, rfl⟩
  have hb4 : Below w3.heap.size w3 w4 := by rw [← hw4]; exact (Below.refl _ _).alloc (Nat.le_refl _) _
  have n4 : w4.heap[w3.heap.size]? = some (.cells #[.pointer (some ⟨g3, 0, none⟩)] 58 (0, 0)) := by rw [← hw4]; exact heap_alloc_new w3 _
  have hb03 := HB2.out.trans (hb3.mono HB2.out.size)
  have hph : PH w4 w3.heap.size g3 base cap A3 c3 bs H := ⟨n4, a3.below hb4, HR.out, HCP.out, hc, hb⟩
  have HF : Hid (PMade base cap H w (.returned (.tuple #[.pointer (some ⟨w3.heap.size, 0, none⟩), .nilIface])) w4) :=
    ⟨_, _, A3, c3, bs, rfl, hph, hb03.trans (hb4.mono hb03.size), hb03.size, Nat.le_trans HB2.out.size k1, fun a e => Nat.le_trans HB2.out.size (k2 a e)⟩
  have HPH := Lib.hid hph
  have HW4 := Lib.hid hw4
  clear a3 hb3 k1 k2 hw4 hb4 n4 hb03 hph HC2 HB2
  go_wp2_with (first | (rw [HW4.out]) | fail)
  go_ret2
  exact ⟨H, bs, HF.out, HR.out, rfl, _, _, _, _, rfl, HPH.out⟩
set_option maxHeartbeats 1000000 in
theorem harena_any (h : PH w q g base cap A c bs H) :
    Calls Tryz.prog 11 #[.pointer (some ⟨q, 0, none⟩)] w fun e w' => Cloned base cap bs w e w' := by
  have HC := Lib.hid (clone_any h.ar (by have := h.len; omega))
  have k0 := h.c0
  have hlq := h.lt
  clear h
  go_enter Tryz.func11, Tryz.ntmps11
  go_wp2_with fail
  refine HC.out.mono ?_
  rintro e w2 ⟨g2, A2, c2, rfl, h2⟩
  have HF := Lib.hid h2
  clear h2 HC k0
  go_wp2
  go_ret
  exact ⟨g2, A2, c2, rfl, HF.out⟩
end
end Go.Proofs.YtbldlidpapdkbaaGreat

/- The head of layer 14's laws. -/
namespace Go.Proofs.YtbldlidpapdkbaaGreat
open Go.RowKit

section
variable {H : Hp}
theorem get_cap {n : Nat} {x : UInt8} : (H.get n x).2.cap = H.cap := by
  unfold Hp.get
  split
  · rfl
  · split
    · rfl
    · dsimp only
      split
      · exact take_cap
      · exact take_cap
theorem calloc_cap {n m : Nat} : (H.calloc n m).2.cap = H.cap := by
  unfold Hp.calloc
  split
  · rfl
  · exact get_cap
end

/-- A heap above a bound. -/
structure Hv (B : Nat) (w : World) (q g base cap : Nat) (A : Option Addr) (c : Nat) (bs : List UInt8) (H : Hp) : Prop where
  ph : PH w q g base cap A c bs H
  qB : B ≤ q
  gB : B ≤ g
  aB : ∀ a, A = some a → B ≤ a.block
section
variable {B : Nat} {w w' : World} {q g base cap c : Nat} {A : Option Addr} {bs : List UInt8} {H H' : Hp}
theorem Hv.fB (h : Hv B w q g base cap A c bs H) {k : Nat} (hk : foot g A k) : B ≤ k := by
  rcases hk with rfl | ⟨a, e, rfl⟩
  · exact h.gB
  · exact h.aB a e
theorem Hv.below (h : Hv B w q g base cap A c bs H) (hb : Below w.heap.size w w') : Hv B w' q g base cap A c bs H := ⟨h.ph.below hb, h.qB, h.gB, h.aB⟩
theorem Hv.turn (h : Hv B w q g base cap A c bs H) (hB : B ≤ w.heap.size) (ht : PTurn g base cap A H' w w') (hc : H'.cap = cap) : ∃ A' c' bs', Hv B w' q g base cap A' c' bs' H' ∧ Tch (foot g A) w w' ∧ (A' = A ∨ ∀ a, A' = some a → w.heap.size ≤ a.block) := by
  obtain ⟨A', c', out, h1, h2, h3⟩ := ht.ph h.ph hc
  refine ⟨A', c', out, ⟨h1, h.qB, h.gB, fun a e => ?_⟩, h2, h3⟩
  rcases h3 with h3 | h3
  · exact h.aB a (h3 ▸ e)
  · exact Nat.le_trans hB (h3 a e)
theorem Hv.low (h : Hv B w q g base cap A c bs H) (hB : B ≤ w.heap.size) (ht : Tch (foot g A) w w') : Below B w w' := ht.below (fun _ hk => h.fB hk) hB
theorem PMade.hv {e : Ending} (h : PMade base cap H w e w') : ∃ q g A c bs, e = .returned (.tuple #[.pointer (some ⟨q, 0, none⟩), .nilIface]) ∧ Hv w.heap.size w' q g base cap A c bs H ∧ Below w.heap.size w w' := by
  obtain ⟨q, g, A, c, bs, he, hp, hb, h1, h2, h3⟩ := h
  exact ⟨q, g, A, c, bs, he, ⟨hp, h1, h2, h3⟩, hb⟩
theorem Hv.less {B' : Nat} (h : Hv B w q g base cap A c bs H) (hB : B' ≤ B) : Hv B' w q g base cap A c bs H := ⟨h.ph, Nat.le_trans hB h.qB, Nat.le_trans hB h.gB, fun a e => Nat.le_trans hB (h.aB a e)⟩

set_option maxRecDepth 100000 in
set_option maxHeartbeats 400000 in
/-- Free of what is no handle changes nothing. -/
theorem hfree_bad (h : PH w q g base cap A c bs H) (p : Nat) (hp : p < 18446744073709551616) (hh : H.handleB p = none) :
    Calls Tryz.prog 17 #[.pointer (some ⟨q, 0, none⟩), .int .u64 (p : Int)] w fun e w' => e = .returned (.iface 55 (.int .i64 4)) ∧ Below w.heap.size w w' := by
  have hF := pfind_any h p hp
  rw [hh] at hF
  dsimp only [bkV, errV, Option.map, Option.isSome] at hF
  have HF := Lib.hid hF
  clear h hF hh
  go_enter Tryz.func17, Tryz.ntmps17
  go_wp2_with fail
  refine HF.out.mono ?_
  rintro e w2 ⟨rfl, hb⟩
  have HT := Lib.hid (hb.alloc hb.size (.cells #[.int .i64 0, .int .i64 0, .bool false] 50))
  clear hb HF
  go_wp2
  go_ret
  exact ⟨rfl, HT.out⟩
end
theorem run_one_u8 (w : World) (x : UInt8) : (Instr.buildSlice 22 1 #[(0, .int .u8 (x.toNat : Int))]).run Tryz.prog w = .ok (.slice (some ⟨w.heap.size, 0, none⟩) 1 1) (w.alloc (.cells (rowB [x]) 5)) := by
  obtain ⟨i0, hi, hz0, hz1, hz2⟩ := info_parts u8_inf
  refine run_buildSlice w 22 5 1 _ _ i0 _ Tryz.underlying22 hi hz0 (by omega) (by omega) ?_
  rw [hz1]
  have e : Array.range (1 * 1) = #[0] := by decide
  rw [e]
  simp [Instr.fill, Value.cells, rowB, bv]
theorem conv_Bx {w : World} {B n : Nat} {A : Option Addr} {bs : List UInt8} (h : Rd w B A n bs) (c : Nat) (x : LaterB B w) : (convert 22 9 (.slice A n c)).run Tryz.prog x.val = .ok (.string (strB bs)) x.val := conv_rd (h.below x.ext)
theorem Rd.ownR {w : World} {base n c : Nat} {A : Option Addr} {bs : List UInt8} (h : w.ownsRow base 5 1 (.slice A n c) n (bs.map bv)) : Rd w w.heap.size A n bs := by
  obtain ⟨A', c', e, _, hr⟩ := own_any h
  injection e with e1
  subst e1
  exact hr

def up14A : Hp := ((hpZero 1024).get 5 165).2
def up14B : Hp := (up14A.calloc 3 4).2
set_option maxRecDepth 100000 in
set_option maxHeartbeats 4000000 in
theorem up14_any (w : World) :
    Calls Tryz.prog 4 #[] w fun e w' => e = .returned (.bool true) ∧ Below w.heap.size w w' := by
  have t1 : ((hpZero 1024).get 5 165).1 = (192, 0) := by kernel_rfl
  have t2 : up14A.usableP 192 = (16, 0) := by kernel_rfl
  obtain ⟨y, hy⟩ : ∃ y : List UInt8, [165] = y := ⟨_, rfl⟩
  have t3 : up14A.readP 192 0 1 = (y, 0) := by rw [← hy]; kernel_rfl
  have hyl : y.length = 1 := by rw [← hy]; rfl
  have HBS : Hid (∀ W : World, (Instr.buildSlice 22 1 #[(0, .int .u8 165)]).run Tryz.prog W = .ok (.slice (some ⟨W.heap.size, 0, none⟩) 1 1) (W.alloc (.cells (rowB y) 5))) := fun W => by rw [← hy]; exact run_one_u8 W 165
  have t4 : (up14A.calloc 3 4).1 = (224, 0) := by kernel_rfl
  obtain ⟨z, hz⟩ : ∃ z, List.replicate 16 (0 : UInt8) = z := ⟨_, rfl⟩
  have t5 : up14B.readP 224 0 16 = (z, 0) := by rw [← hz]; kernel_rfl
  have hzl : z.length = 16 := by rw [← hz]; exact List.length_replicate
  have t6 : up14B.handleB 193 = none := by kernel_rfl
  have c1 : up14A.cap = 1024 := get_cap
  have c2 : up14B.cap = 1024 := calloc_cap.trans c1
  have HMK : ∀ W : World, (Instr.makeSlice 22 (.int .i64 16) (.int .i64 16)).run Tryz.prog W = .ok (.slice (some ⟨W.heap.size, 0, none⟩) 16 16) (W.alloc (.cells (rowB z) 5)) := run_mk0 16 (by omega) z hz
  have HMK := Lib.hid HMK
  have T1 := Lib.hid t1
  have T2 := Lib.hid t2
  have T3 := Lib.hid t3
  have T4 := Lib.hid t4
  have T5 := Lib.hid t5
  have T6 := Lib.hid t6
  have C1 := Lib.hid c1
  have C2 := Lib.hid c2
  have ZL := Lib.hid hzl
  have YL := Lib.hid hyl
  have HN := Lib.hid (hnew_good w 64 1024 (by omega) (by omega) (by omega) (by omega))
  clear hz t1 t2 t3 t4 t5 t6 c1 c2 hzl hy hyl
  go_enter Tryz.func4, Tryz.ntmps4
  go_wp2_with fail
  refine HN.out.mono ?_
  intro e w1 hm
  obtain ⟨q, g, A, c, bs, rfl, hv, hb⟩ := hm.hv
  have HB1 := Lib.hid hb
  have HV1 := Lib.hid hv
  clear hm hb hv HN
  go_wp2_with fail
  refine (hmalloc_any HV1.out.ph 5 (by omega)).mono ?_
  rintro e w2 ⟨rfl, ht⟩
  obtain ⟨A2, cc2, bs2, hv2, tc2, _⟩ := HV1.out.turn HB1.out.size ht C1.out
  have HB2 := Lib.hid (HB1.out.trans (HV1.out.low HB1.out.size tc2))
  have HV2 : Hid (Hv w.heap.size w2 q g 64 1024 A2 cc2 bs2 up14A) := hv2
  clear ht hv2 tc2 HV1 HB1
  rw [T1.out]
  dsimp only [errN_0]
  go_wp2_with fail
  refine (husablep_any HV2.out.ph 192 (by omega)).mono ?_
  rintro e w3 ⟨rfl, hb3⟩
  have HV3 := Lib.hid (HV2.out.below hb3)
  have HB3 := Lib.hid (HB2.out.trans (hb3.mono HB2.out.size))
  clear hb3 HV2 HB2
  rw [T2.out]
  dsimp only [errN_0]
  go_wp2_with fail
  refine (hread_any HV3.out.ph 192 0 1 (by omega) (by omega) (by omega)).mono ?_
  rintro e w4 ⟨A4, c4, rfl, ho4, hb4⟩
  rw [T3.out] at ho4 ⊢
  dsimp only at ho4 ⊢
  rw [YL.out] at ho4 ⊢
  have HR4 := Lib.hid (Rd.ownR ho4)
  have HV4 := Lib.hid (HV3.out.below hb4)
  have HB4 := Lib.hid (HB3.out.trans (hb4.mono HB3.out.size))
  have HO4 := Lib.hid ho4
  have HS4 := Lib.hid HV3.out.ph.ar
  clear ho4 hb4 HB3
  dsimp only [errN_0]
  go_wp2_with fail
  refine (hcalloc_prog HV4.out.ph 3 4 (by omega) (by omega)).mono ?_
  rintro e w5 ⟨rfl, ht⟩
  obtain ⟨A5, c5, bs5, hv5, tc5, _⟩ := HV4.out.turn HB4.out.size ht (calloc_cap.trans C1.out)
  have HV5 : Hid (Hv w.heap.size w5 q g 64 1024 A5 c5 bs5 up14B) := hv5
  have HB5 := Lib.hid (HB4.out.trans (HV4.out.low HB4.out.size tc5))
  have HR5 := Lib.hid (HR4.out.tch tc5 (fun a e hk => by
    have h1 := (HO4.out.lt a.block (by rw [e]; rfl)).1
    have h2 := HV3.out.ph.ar.foot_lt hk
    omega))
  clear ht hv5 tc5 HV4 HB4 HR4 HO4 HS4 HV3
  rw [T4.out]
  dsimp only [errN_0]
  go_wp2_with fail
  refine (hread_any HV5.out.ph 224 0 16 (by omega) (by omega) (by omega)).mono ?_
  rintro e w6 ⟨A6, c6, rfl, ho6, hb6⟩
  rw [T5.out] at ho6 ⊢
  dsimp only at ho6 ⊢
  rw [ZL.out] at ho6 ⊢
  obtain ⟨wd, hwd⟩ : ∃ wd, w6.drew = wd := ⟨_, rfl⟩
  have hbd : Below w5.heap.size w5 wd := by rw [← hwd]; exact hb6.drew
  have r6 : Rd wd wd.heap.size A6 16 z := by rw [← hwd]; exact (Rd.ownR ho6).drew
  have r5 := (HR5.out.below hbd).more hbd.size
  have HR6 := Lib.hid r6
  have HV6 := Lib.hid (HV5.out.below hbd)
  have HB6 := Lib.hid (HB5.out.trans (hbd.mono HB5.out.size))
  have HWD := Lib.hid hwd
  have q1 := conv_Bx r5 c4
  have q2 := conv_Bx r6 c6
  clear ho6 hb6 hbd r6 r5 hwd HV5 HB5 HR5
  dsimp only [errN_0]
  go_wp2_with fail
  refine wp_region_tail wd.heap.size [([0, 1, 2, 3, 4, 5, 6, 7, 8, 9, 10, 11, 12, 13, 14, 15, 16, 17, 18, 19, 20, 21, 22, 23, 24, 25, 26, 27, 28], 29), ([30, 31, 32, 33, 34, 35, 36, 37, 38, 39], 40), ([41, 42, 43, 44, 45], 46), ([], 47)] [48, 49, 50] [] (by kernel_rfl) (by kernel_rfl) (by kernel_rfl) (fun _ _ _ _ _ h => h) ?_
  rw [HWD.out]
  refine tail_cons (l := ?seg1) ?hseg1 ?_
  case hseg1 => simp only [pick, List.getElem?_toArray, List.getElem?_cons_succ, List.getElem?_cons_zero]; rfl
  repeat (go_big_quiet_step (fail))
  refine wpQuiet_nil ?_
  obtain ⟨w7, hw7⟩ : ∃ w7, wd.alloc (.cells (rowB y) 5) = w7 := ⟨_, rfl⟩
  have hb7 : Below wd.heap.size wd w7 := by rw [← hw7]; exact (Below.refl _ _).alloc (Nat.le_refl _) _
  have f7 : Fill w7 wd.heap.size 5 y := by rw [← hw7]; exact Fill.made wd _ _
  have r7 := f7.reads
  rw [YL.out] at r7
  have HR7 := Lib.hid r7
  have HB7 := Lib.hid hb7
  refine tail_val2 (some 80) (w1 := w7) (v := .slice (some ⟨wd.heap.size, 0, none⟩) 1 1) rfl rfl rfl (bslice_run rfl rfl (by rw [← hw7]; exact HBS.out wd)) hb7 ?_
  refine ⟨w7.heap.size, hb7.size, ?_⟩
  clear q1 q2 hw7 hb7 f7 r7
  have q2 := conv_Bx ((HR6.out.below HB7.out).more HB7.out.size) c6
  have q3 := conv_Bx HR7.out 1
  refine tail_cons (l := ?seg2) ?hseg2 ?_
  case hseg2 => simp only [pick, List.getElem?_toArray, List.getElem?_cons_succ, List.getElem?_cons_zero]; rfl
  simp only [Act.put, List.setIfInBounds_toArray, List.set_cons_zero, List.set_cons_succ]
  repeat (go_big_quiet_step (fail))
  refine wpQuiet_nil ?_
  clear q2 q3
  obtain ⟨w8, hw8⟩ : ∃ w8, w7.alloc (.cells (rowB z) 5) = w8 := ⟨_, rfl⟩
  have hb8 : Below w7.heap.size w7 w8 := by rw [← hw8]; exact (Below.refl _ _).alloc (Nat.le_refl _) _
  have f8 : Fill w8 w7.heap.size 5 z := by rw [← hw8]; exact Fill.made w7 _ _
  have r8 := f8.reads
  rw [ZL.out] at r8
  have HB8 := Lib.hid hb8
  refine tail_val2 (some 91) (w1 := w8) (v := .slice (some ⟨w7.heap.size, 0, none⟩) 16 16) rfl rfl rfl (mk_run rfl rfl rfl (by rw [← hw8]; exact HMK.out w7)) hb8 ?_
  refine ⟨w8.heap.size, hb8.size, ?_⟩
  have q2 := conv_Bx r8 16
  clear hw8 hb8 f8 r8
  refine tail_cons (l := ?seg3) ?hseg3 ?_
  case hseg3 => simp only [pick, List.getElem?_toArray, List.getElem?_cons_succ, List.getElem?_cons_zero]; rfl
  simp only [Act.put, List.setIfInBounds_toArray, List.set_cons_zero, List.set_cons_succ]
  repeat (go_big_quiet_step (fail))
  refine wpQuiet_nil ?_
  clear q2
  have hb78 := HB7.out.trans (HB8.out.mono HB7.out.size)
  have HV8 := Lib.hid (HV6.out.below hb78)
  have HB68 := Lib.hid (HB6.out.trans (hb78.mono HB6.out.size))
  refine tail_call (vs := #[.pointer (some ⟨q, 0, none⟩), .int .u64 193]) Tryz.call17 rfl rfl rfl (R := fun r w' => r = .iface 55 (.int .i64 4) ∧ Below w8.heap.size w8 w') ((hfree_bad HV8.out.ph 193 (by omega) T6.out).mono ?_) w8.heap.size (Nat.le_refl _) ?_
  · rintro e w' ⟨rfl, hb⟩
    exact ⟨_, rfl, hb, rfl, hb⟩
  rintro r w9 _ ⟨rfl, hb9⟩
  have HB9 := Lib.hid (HB68.out.trans (hb9.mono HB68.out.size))
  refine tail_cons (l := []) rfl (wpQuiet_nil ?_)
  simp only [Act.put, List.setIfInBounds_toArray, List.set_cons_zero, List.set_cons_succ]
  refine tail_call (vs := #[.iface 55 (.int .i64 4)]) Tryz.call9 rfl rfl rfl (R := fun r w' => r = .int .i64 4 ∧ w' = w9) ((code_err w9 4 (by omega) (by omega)).mono ?_) w8.heap.size (Nat.le_refl _) ?_
  · rintro e w' ⟨rfl, rfl⟩
    exact ⟨_, rfl, Below.refl _ _, rfl, rfl⟩
  rintro r w10 _ ⟨rfl, rfl⟩
  refine tail_last (l := ?la4) (t := []) ?hla4 ?htl4 ?_
  case hla4 => simp only [pick, List.getElem?_toArray, List.getElem?_cons_succ, List.getElem?_cons_zero]; rfl
  case htl4 => rfl
  simp only [Act.put, List.setIfInBounds_toArray, List.set_cons_zero, List.set_cons_succ]
  repeat (go_big_quiet_step (fail))
  refine wpQuiet_nil ?_
  clear hb9
  go_wp2
  go_ret
  exact ⟨rfl, HB9.out⟩
end Go.Proofs.YtbldlidpapdkbaaGreat

/- The walk of HeapOf (genhof.py). -/
namespace Go.Proofs.YtbldlidpapdkbaaGreat
open Go.RowKit

/-- In a heap of few bytes, and with more room, one byte is told. -/
theorem get_one {bs : List UInt8} {H : Hp} (h : RtD bs H) (hl : bs.length ≤ 2000) (hc : H.cap = 4096) : (H.get 1 165).1.2 = 0 := by
  have hs : needN 1 = some 32 := by decide
  have hz : isSz ((32 : Nat) : Int) = true := by decide
  have hr := h.rt.room (s := 32) hz
  have ht := (h.rt.ok (by omega) h.dl).tl
  have he := endU_tail ht h.rt.nfree.2.1
  have hle := h.rt.lenE
  have hd : decide (32 + endU H.blks ≤ H.cap) = true := decide_eq_true (by omega)
  rw [hd, Bool.or_true] at hr
  cases hq : (H.take 32).1 with
  | none => rw [hq] at hr; cases hr
  | some o => unfold Hp.get; rw [hs]; dsimp only; rw [hq]
set_option maxHeartbeats 1000000 in
theorem ho_long (w : World) (A : Option Addr) (n k : Nat) (hn : 2000 < n) (hn2 : n ≤ 9223372036854775807) (u : Bool) :
    Calls Tryz.prog 3 #[.slice A n k, .bool u] w fun e w' => e = .returned (.bool true) ∧ Below w.heap.size w w' := by
  have HUP := Lib.hid (up14_any w)
  go_enter Tryz.func3, Tryz.ntmps3
  go_wp2_with fail
  refine HUP.out.mono ?_
  rintro e w1 ⟨rfl, hb⟩
  have HB := Lib.hid hb
  clear hb HUP
  go_wp2
  go_ret
  exact ⟨rfl, HB.out⟩

theorem hof_split {w w' : World} {base cap : Nat} {bs : List UInt8} {e : Ending} (h : ∃ H bs', PMade base cap H w e w' ∧ RtD bs' H ∧ bs' = bs ∧ ∃ q g A c, e = .returned (.tuple #[.pointer (some ⟨q, 0, none⟩), .nilIface]) ∧ PH w' q g base cap A c bs H) :
    ∃ H q g A c, e = .returned (.tuple #[.pointer (some ⟨q, 0, none⟩), .nilIface]) ∧ Hv w.heap.size w' q g base cap A c bs H ∧ Below w.heap.size w w' := by
  obtain ⟨H, bs', hm, _, _, q, g, A, c, he, hp⟩ := h
  obtain ⟨q2, g2, A2, c2, bs2, he2, hp2, hb, h1, h2, h3⟩ := hm
  rw [he] at he2
  have eq : q = q2 := by
    have e1 : (Value.tuple #[.pointer (some ⟨q, 0, none⟩), .nilIface]) = .tuple #[.pointer (some ⟨q2, 0, none⟩), .nilIface] := by injection he2
    have e2 : (#[Value.pointer (some ⟨q, 0, none⟩), .nilIface] : Array Value) = #[.pointer (some ⟨q2, 0, none⟩), .nilIface] := by injection e1
    have e3 := congrArg (fun a : Array Value => a[0]?) e2
    simp at e3
    exact e3
  subst eq
  have eg : g = g2 := by
    have e1 := hp.obj
    rw [hp2.obj] at e1
    injection e1 with e1
    injection e1 with e1 _ _
    have e3 := congrArg (fun a : Array Value => a[0]?) e1
    simp at e3
    exact e3.symm
  subst eg
  have eA : A = A2 := by
    have e1 := hp.ar.obj
    rw [hp2.ar.obj] at e1
    injection e1 with e1
    injection e1 with e1 _ _
    have e3 := congrArg (fun a : Array Value => a[2]?) e1
    simp at e3
    exact e3.1.symm
  subst eA
  exact ⟨H, q, g, A, c, he, ⟨hp, h1, h2, h3⟩, hb⟩
set_option maxRecDepth 100000 in
set_option maxHeartbeats 2000000 in
theorem ho_FW (w : World) (A0 : Option Addr) (k0 : Nat) (b0 b1 : List UInt8) (n : Nat) (hr0 : Rd w w.heap.size A0 n b0) (hn0 : n ≤ k0) (hA0 : A0 = none → k0 = 0) (hn : n ≤ 2000) (hb1 : b0 = b1) (hk : checkB b1 = false) :
    Calls Tryz.prog 3 #[.slice A0 n k0, .bool false] w fun e w' => e = .returned (.bool true) ∧ Below w.heap.size w w' := by
  have HUP := Lib.hid (up14_any w)
  have HR0 := Lib.hid hr0
  have HA0 := Lib.hid hA0
  have HB1 := Lib.hid hb1
  have HK := Lib.hid hk
  clear hr0 hA0 hb1 hk
  go_enter Tryz.func3, Tryz.ntmps3
  go_wp2_with fail
  refine HUP.out.mono ?_
  rintro e w1 ⟨rfl, hb⟩
  have HW1 := Lib.hid hb
  clear hb HUP
  obtain ⟨A1, hA1⟩ : ∃ A1, A0 = A1 := ⟨_, rfl⟩
  obtain ⟨k1, hk1⟩ : ∃ k1, k0 = k1 := ⟨_, rfl⟩
  subst hA1 hk1
  have HR1 : Hid (Rd w1 w1.heap.size A0 n b1) := (show _ by rw [← HB1.out]; exact (HR0.out.below HW1.out).more HW1.out.size)
  have HA1 := HA0
  have HW2 := HW1
  have hn1 := hn0
  have hlen := HR1.out.1
  have hma := arena_any w1 32 4096 A0 k0 b1 (by rw [hlen]; exact HR1.out) (by omega) (by omega) (by omega) (by omega) (by omega)
  rw [hlen] at hma
  have HMA := Lib.hid hma
  have HLEN := Lib.hid hlen
  clear hma hlen
  go_wp2_with fail
  refine HMA.out.mono ?_
  rintro e w3 hmade
  obtain ⟨g, A, c, rfl, hst⟩ := St.made hmade
  have HST := Lib.hid hst
  have HR3 := Lib.hid (hst.rd HR1.out)
  have HW3 := Lib.hid (HW2.out.trans (hst.bel.mono HW2.out.size))
  have HARL := Lib.hid hst.ar
  clear hmade hst HMA HR1 HW2 HST
  go_wp2_with fail
  refine (hof_bad HARL.out (by omega) (by rw [HLEN.out]; omega) HK.out).mono ?_
  rintro e w4 ⟨rfl, hb4⟩
  have HR4 := Lib.hid ((HR3.out.below hb4).more hb4.size)
  have HW4 := Lib.hid (HW3.out.trans (hb4.mono HW3.out.size))
  clear hb4 HR3 HW3
  dsimp only [errN_3]
  go_wp2_with fail
  refine (hof_nil w4).mono ?_
  rintro e w5 ⟨rfl, rfl⟩
  dsimp only [errN_1]
  go_wp2_with fail
  refine (rcheck_any w4 A0 k0 b1 n HLEN.out HR4.out hn1 (by omega) _ HK.out).mono ?_
  rintro e w5 ⟨rfl, hb5⟩
  have HW5 := Lib.hid (HW4.out.trans (hb5.mono HW4.out.size))
  clear hb5 HR4 HW4
  go_wp2_with fail
  refine (code_err w5 3 (by omega) (by omega)).mono ?_
  rintro e w6 ⟨rfl, rfl⟩
  go_wp2_with fail
  refine (code_err w5 1 (by omega) (by omega)).mono ?_
  rintro e w6 ⟨rfl, rfl⟩
  go_wp2
  go_ret
  exact ⟨rfl, HW5.out⟩
set_option maxRecDepth 100000 in
set_option maxHeartbeats 2000000 in
theorem ho_TW (w : World) (A0 : Option Addr) (k0 : Nat) (b0 b1 : List UInt8) (n : Nat) (hr0 : Rd w w.heap.size A0 n b0) (hn0 : n ≤ k0) (hA0 : A0 = none → k0 = 0) (hn : n ≤ 2000) (hb1 : (rebuildB b0).getD b0 = b1) (hk : checkB b1 = false) :
    Calls Tryz.prog 3 #[.slice A0 n k0, .bool true] w fun e w' => e = .returned (.bool true) ∧ Below w.heap.size w w' := by
  have HUP := Lib.hid (up14_any w)
  have HR0 := Lib.hid hr0
  have HA0 := Lib.hid hA0
  have HB1 := Lib.hid hb1
  have HK := Lib.hid hk
  clear hr0 hA0 hb1 hk
  go_enter Tryz.func3, Tryz.ntmps3
  go_wp2_with fail
  refine HUP.out.mono ?_
  rintro e w1 ⟨rfl, hb⟩
  have HW1 := Lib.hid hb
  clear hb HUP
  have hrb := rrebuild_any (w := w1) (fun _ => True) (fun _ _ => trivial) A0 k0 b0 n HR0.out.1 ((HR0.out.below HW1.out).more HW1.out.size) hn0 ⟨HA0.out, fun _ _ => trivial⟩ (by omega) _ rfl
  rw [HB1.out] at hrb
  have HRB := Lib.hid hrb
  clear hrb
  go_wp2_with fail
  refine HRB.out.mono ?_
  rintro e w2 ⟨A1, k1, rfl, hr1, hn1, hA1, hb⟩
  have HR1 := Lib.hid hr1
  have HA1 := Lib.hid hA1.1
  have HW2 := Lib.hid (HW1.out.trans (hb.mono HW1.out.size))
  clear hr1 hA1 hb HRB
  have hlen := HR1.out.1
  have hma := arena_any w2 32 4096 A1 k1 b1 (by rw [hlen]; exact HR1.out) (by omega) (by omega) (by omega) (by omega) (by omega)
  rw [hlen] at hma
  have HMA := Lib.hid hma
  have HLEN := Lib.hid hlen
  clear hma hlen
  go_wp2_with fail
  refine HMA.out.mono ?_
  rintro e w3 hmade
  obtain ⟨g, A, c, rfl, hst⟩ := St.made hmade
  have HST := Lib.hid hst
  have HR3 := Lib.hid (hst.rd HR1.out)
  have HW3 := Lib.hid (HW2.out.trans (hst.bel.mono HW2.out.size))
  have HARL := Lib.hid hst.ar
  clear hmade hst HMA HR1 HW2 HST
  go_wp2_with fail
  refine (hof_bad HARL.out (by omega) (by rw [HLEN.out]; omega) HK.out).mono ?_
  rintro e w4 ⟨rfl, hb4⟩
  have HR4 := Lib.hid ((HR3.out.below hb4).more hb4.size)
  have HW4 := Lib.hid (HW3.out.trans (hb4.mono HW3.out.size))
  clear hb4 HR3 HW3
  dsimp only [errN_3]
  go_wp2_with fail
  refine (hof_nil w4).mono ?_
  rintro e w5 ⟨rfl, rfl⟩
  dsimp only [errN_1]
  go_wp2_with fail
  refine (rcheck_any w4 A1 k1 b1 n HLEN.out HR4.out hn1 (by omega) _ HK.out).mono ?_
  rintro e w5 ⟨rfl, hb5⟩
  have HW5 := Lib.hid (HW4.out.trans (hb5.mono HW4.out.size))
  clear hb5 HR4 HW4
  go_wp2_with fail
  refine (code_err w5 3 (by omega) (by omega)).mono ?_
  rintro e w6 ⟨rfl, rfl⟩
  go_wp2_with fail
  refine (code_err w5 1 (by omega) (by omega)).mono ?_
  rintro e w6 ⟨rfl, rfl⟩
  go_wp2
  go_ret
  exact ⟨rfl, HW5.out⟩
set_option maxRecDepth 100000 in
set_option maxHeartbeats 2000000 in
theorem ho_FR (w : World) (A0 : Option Addr) (k0 : Nat) (b0 b1 : List UInt8) (n : Nat) (hr0 : Rd w w.heap.size A0 n b0) (hn0 : n ≤ k0) (hA0 : A0 = none → k0 = 0) (hn : n ≤ 2000) (hb1 : b0 = b1) (hk : checkB b1 = true) :
    Calls Tryz.prog 3 #[.slice A0 n k0, .bool false] w fun e w' => e = .returned (.bool true) ∧ Below w.heap.size w w' := by
  have HUP := Lib.hid (up14_any w)
  have HR0 := Lib.hid hr0
  have HA0 := Lib.hid hA0
  have HB1 := Lib.hid hb1
  have HK := Lib.hid hk
  clear hr0 hA0 hb1 hk
  go_enter Tryz.func3, Tryz.ntmps3
  go_wp2_with fail
  refine HUP.out.mono ?_
  rintro e w1 ⟨rfl, hb⟩
  have HW1 := Lib.hid hb
  clear hb HUP
  obtain ⟨A1, hA1⟩ : ∃ A1, A0 = A1 := ⟨_, rfl⟩
  obtain ⟨k1, hk1⟩ : ∃ k1, k0 = k1 := ⟨_, rfl⟩
  subst hA1 hk1
  have HR1 : Hid (Rd w1 w1.heap.size A0 n b1) := (show _ by rw [← HB1.out]; exact (HR0.out.below HW1.out).more HW1.out.size)
  have HA1 := HA0
  have HW2 := HW1
  have hn1 := hn0
  have hlen := HR1.out.1
  have hma := arena_any w1 32 4096 A0 k0 b1 (by rw [hlen]; exact HR1.out) (by omega) (by omega) (by omega) (by omega) (by omega)
  rw [hlen] at hma
  have HMA := Lib.hid hma
  have HLEN := Lib.hid hlen
  clear hma hlen
  go_wp2_with fail
  refine HMA.out.mono ?_
  rintro e w3 hmade
  obtain ⟨g, A, c, rfl, hst⟩ := St.made hmade
  have HST := Lib.hid hst
  have HR3 := Lib.hid (hst.rd HR1.out)
  have HW3 := Lib.hid (HW2.out.trans (hst.bel.mono HW2.out.size))
  have HARL := Lib.hid hst.ar
  clear hmade hst HMA HR1 HW2 HST
  go_wp2_with fail
  refine (hof_good HARL.out (by omega) (by omega) (by rw [HLEN.out]; omega) HK.out).mono ?_
  rintro e w4 hog
  obtain ⟨H, q, g2, A2, c2, rfl, hv, hb4⟩ := hof_split hog
  have HV4 := Lib.hid hv
  have HB34 := Lib.hid hb4
  clear hog hv hb4
  dsimp only
  go_wp2_with fail
  refine (hof_nil w4).mono ?_
  rintro e w5 ⟨rfl, rfl⟩
  dsimp only [errN_1]
  go_wp2_with fail
  refine (rcheck_any w4 A0 k0 b1 n HLEN.out ((HR3.out.below HB34.out).more HB34.out.size) hn1 (by omega) _ HK.out).mono ?_
  rintro e w5 ⟨rfl, hb5⟩
  obtain ⟨wd, hwd⟩ : ∃ wd, w5.drew = wd := ⟨_, rfl⟩
  have hb5d : Below w4.heap.size w4 wd := by rw [← hwd]; exact hb5.drew
  have HV5 := Lib.hid (HV4.out.below hb5d)
  have HB35 := Lib.hid (HB34.out.trans (hb5d.mono HB34.out.size))
  have hrd := (HR3.out.below HB35.out).more HB35.out.size
  have HARA := Lib.hid (harena_any HV5.out.ph)
  have HWD := Lib.hid hwd
  have q1 := conv_Bx hrd k0
  clear hb5 hb5d hwd HV4 HB34 hrd
  go_wp2_with fail
  refine wp_region_tail wd.heap.size [([0, 1, 2, 3, 4, 5, 6, 7, 11, 12], 8), ([], 9)] [10, 13, 14] [] (by kernel_rfl) (by kernel_rfl) (by kernel_rfl) (fun _ _ _ _ _ h => h) ?_
  rw [HWD.out]
  refine tail_cons (l := ?seg1) ?hseg1 ?_
  case hseg1 => simp only [pick, List.getElem?_toArray, List.getElem?_cons_succ, List.getElem?_cons_zero]; rfl
  repeat (go_big_quiet_step (fail))
  refine wpQuiet_nil ?_
  clear q1
  refine tail_call (vs := #[.pointer (some ⟨q, 0, none⟩)]) Tryz.call11 rfl rfl rfl (R := fun r w' => ∃ g' A' c', r = .pointer (some ⟨g', 0, none⟩) ∧ Ar w' 82 g' 32 4096 A' c' b1 ∧ Below wd.heap.size wd w') (HARA.out.mono ?_) wd.heap.size (Nat.le_refl _) ?_
  · rintro e w' ⟨g', A', c', rfl, ha, hb, _⟩
    exact ⟨_, rfl, hb, g', A', c', rfl, ha, hb⟩
  rintro r w6 _ ⟨g', A', c', rfl, ha6, hb6⟩
  have HBY := Lib.hid (bytes_any ha6 (by rw [HLEN.out]; omega) (by omega))
  have HB6 := Lib.hid hb6
  clear ha6 hb6 HARA
  refine tail_cons (l := []) rfl (wpQuiet_nil ?_)
  simp only [Act.put, List.setIfInBounds_toArray, List.set_cons_zero, List.set_cons_succ]
  refine tail_call2 (vs := #[.pointer (some ⟨g', 0, none⟩)]) Tryz.call10 rfl rfl rfl (R := fun r w' => ∃ A' c', r = .slice A' n c' ∧ Rd w' w'.heap.size A' n b1 ∧ Below w6.heap.size w6 w') (HBY.out.mono ?_) ?_
  · rintro e w' ⟨A9, c9, rfl, ho, hb⟩
    exact ⟨_, rfl, hb.mono HB6.out.size, A9, c9, by rw [HLEN.out], by rw [← HLEN.out]; exact Rd.ownR ho, hb⟩
  rintro r w7 _ ⟨A9, c9, rfl, hr9, hb7⟩
  have HB37 := Lib.hid (HB35.out.trans (((HB6.out.trans (hb7.mono HB6.out.size))).mono HB35.out.size))
  have HV7 := Lib.hid (HV5.out.below (HB6.out.trans (hb7.mono HB6.out.size)))
  refine ⟨w7.heap.size, Nat.le_trans HB6.out.size hb7.size, ?_⟩
  have q2 := conv_Bx hr9 c9
  refine tail_last (l := ?la2) (t := []) ?hla2 ?htl2 ?_
  case hla2 => simp only [pick, List.getElem?_toArray, List.getElem?_cons_succ, List.getElem?_cons_zero]; rfl
  case htl2 => rfl
  simp only [Act.put, List.setIfInBounds_toArray, List.set_cons_zero, List.set_cons_succ]
  repeat (go_big_quiet_step (fail))
  refine wpQuiet_nil ?_
  clear q2 hr9 hb7 HBY HB6 HV5 HB35
  have hgo := get_one HV7.out.ph.rd (by rw [HLEN.out]; omega) HV7.out.ph.cp
  have HGO := Lib.hid hgo
  clear hgo
  go_wp2_with fail
  refine (hmalloc_any HV7.out.ph 1 (by omega)).mono ?_
  rintro e w8 ⟨rfl, ht⟩
  rw [HGO.out]
  dsimp only [errN_0]
  obtain ⟨A8, c8, bs8, hv8, tc8, _⟩ := HV7.out.turn HB37.out.size ht (get_cap.trans HV7.out.ph.cp)
  have hb38 := HB37.out.trans (HV7.out.low HB37.out.size tc8)
  obtain ⟨we, hwe⟩ : ∃ we, w8.drew = we := ⟨_, rfl⟩
  have hb3e : Below w3.heap.size w3 we := by rw [← hwe]; exact hb38.drew
  have hare := HARL.out.below hb3e
  have hrde := (HR3.out.below hb3e).more hb3e.size
  have HBY := Lib.hid (bytes_any hare (by rw [HLEN.out]; omega) (by omega))
  have HEND := Lib.hid (HW3.out.trans (hb3e.mono HW3.out.size))
  have HWE := Lib.hid hwe
  have q1 := conv_Bx hrde k0
  clear ht hv8 tc8 hb38 hwe hb3e hare HV7 HB37
  go_wp2_with fail
  refine wp_region_tail we.heap.size [([0, 1, 2, 3, 4, 5, 6, 9, 10], 7), ([8, 11, 12, 13, 14], 15)] [16, 17, 18] [] (by kernel_rfl) (by kernel_rfl) (by kernel_rfl) (fun _ _ _ _ _ h => h) ?_
  rw [HWE.out]
  refine tail_cons (l := ?seg3) ?hseg3 ?_
  case hseg3 => simp only [pick, List.getElem?_toArray, List.getElem?_cons_succ, List.getElem?_cons_zero]; rfl
  repeat (go_big_quiet_step (fail))
  refine wpQuiet_nil ?_
  clear q1 hrde
  refine tail_call2 (vs := #[.pointer (some ⟨g, 0, none⟩)]) Tryz.call10 rfl rfl rfl (R := fun r w' => ∃ A' c', r = .slice A' n c' ∧ Rd w' w'.heap.size A' n b1 ∧ Below we.heap.size we w') (HBY.out.mono ?_) ?_
  · rintro e w' ⟨A9, c9, rfl, ho, hb⟩
    exact ⟨_, rfl, hb, A9, c9, by rw [HLEN.out], by rw [← HLEN.out]; exact Rd.ownR ho, hb⟩
  rintro r w9 _ ⟨A9, c9, rfl, hr9, hb9⟩
  have HFIN := Lib.hid (HEND.out.trans (hb9.mono HEND.out.size))
  refine ⟨w9.heap.size, hb9.size, ?_⟩
  have q2 := conv_Bx hr9 c9
  refine tail_cons (l := ?seg4) ?hseg4 ?_
  case hseg4 => simp only [pick, List.getElem?_toArray, List.getElem?_cons_succ, List.getElem?_cons_zero]; rfl
  simp only [Act.put, List.setIfInBounds_toArray, List.set_cons_zero, List.set_cons_succ]
  repeat (go_big_quiet_step (fail))
  refine wpQuiet_nil ?_
  clear q2 hr9 hb9 HBY
  refine tail_call (vs := #[.iface 55 (.int .i64 1)]) Tryz.call9 rfl rfl rfl (R := fun r w' => r = .int .i64 1 ∧ w' = w9) ((code_err w9 1 (by omega) (by omega)).mono ?_) w9.heap.size (Nat.le_refl _) ?_
  · rintro e w' ⟨rfl, rfl⟩
    exact ⟨_, rfl, Below.refl _ _, rfl, rfl⟩
  rintro r w10 _ ⟨rfl, rfl⟩
  refine tail_last (l := ?la5) (t := []) ?hla5 ?htl5 ?_
  case hla5 => simp only [pick, List.getElem?_toArray, List.getElem?_cons_succ, List.getElem?_cons_zero]; rfl
  case htl5 => rfl
  simp only [Act.put, List.setIfInBounds_toArray, List.set_cons_zero, List.set_cons_succ]
  repeat (go_big_quiet_step (fail))
  refine wpQuiet_nil ?_
  go_wp2
  go_ret
  exact ⟨rfl, HFIN.out⟩
set_option maxRecDepth 100000 in
set_option maxHeartbeats 2000000 in
theorem ho_TR (w : World) (A0 : Option Addr) (k0 : Nat) (b0 b1 : List UInt8) (n : Nat) (hr0 : Rd w w.heap.size A0 n b0) (hn0 : n ≤ k0) (hA0 : A0 = none → k0 = 0) (hn : n ≤ 2000) (hb1 : (rebuildB b0).getD b0 = b1) (hk : checkB b1 = true) :
    Calls Tryz.prog 3 #[.slice A0 n k0, .bool true] w fun e w' => e = .returned (.bool true) ∧ Below w.heap.size w w' := by
  have HUP := Lib.hid (up14_any w)
  have HR0 := Lib.hid hr0
  have HA0 := Lib.hid hA0
  have HB1 := Lib.hid hb1
  have HK := Lib.hid hk
  clear hr0 hA0 hb1 hk
  go_enter Tryz.func3, Tryz.ntmps3
  go_wp2_with fail
  refine HUP.out.mono ?_
  rintro e w1 ⟨rfl, hb⟩
  have HW1 := Lib.hid hb
  clear hb HUP
  have hrb := rrebuild_any (w := w1) (fun _ => True) (fun _ _ => trivial) A0 k0 b0 n HR0.out.1 ((HR0.out.below HW1.out).more HW1.out.size) hn0 ⟨HA0.out, fun _ _ => trivial⟩ (by omega) _ rfl
  rw [HB1.out] at hrb
  have HRB := Lib.hid hrb
  clear hrb
  go_wp2_with fail
  refine HRB.out.mono ?_
  rintro e w2 ⟨A1, k1, rfl, hr1, hn1, hA1, hb⟩
  have HR1 := Lib.hid hr1
  have HA1 := Lib.hid hA1.1
  have HW2 := Lib.hid (HW1.out.trans (hb.mono HW1.out.size))
  clear hr1 hA1 hb HRB
  have hlen := HR1.out.1
  have hma := arena_any w2 32 4096 A1 k1 b1 (by rw [hlen]; exact HR1.out) (by omega) (by omega) (by omega) (by omega) (by omega)
  rw [hlen] at hma
  have HMA := Lib.hid hma
  have HLEN := Lib.hid hlen
  clear hma hlen
  go_wp2_with fail
  refine HMA.out.mono ?_
  rintro e w3 hmade
  obtain ⟨g, A, c, rfl, hst⟩ := St.made hmade
  have HST := Lib.hid hst
  have HR3 := Lib.hid (hst.rd HR1.out)
  have HW3 := Lib.hid (HW2.out.trans (hst.bel.mono HW2.out.size))
  have HARL := Lib.hid hst.ar
  clear hmade hst HMA HR1 HW2 HST
  go_wp2_with fail
  refine (hof_good HARL.out (by omega) (by omega) (by rw [HLEN.out]; omega) HK.out).mono ?_
  rintro e w4 hog
  obtain ⟨H, q, g2, A2, c2, rfl, hv, hb4⟩ := hof_split hog
  have HV4 := Lib.hid hv
  have HB34 := Lib.hid hb4
  clear hog hv hb4
  dsimp only
  go_wp2_with fail
  refine (hof_nil w4).mono ?_
  rintro e w5 ⟨rfl, rfl⟩
  dsimp only [errN_1]
  go_wp2_with fail
  refine (rcheck_any w4 A1 k1 b1 n HLEN.out ((HR3.out.below HB34.out).more HB34.out.size) hn1 (by omega) _ HK.out).mono ?_
  rintro e w5 ⟨rfl, hb5⟩
  obtain ⟨wd, hwd⟩ : ∃ wd, w5.drew = wd := ⟨_, rfl⟩
  have hb5d : Below w4.heap.size w4 wd := by rw [← hwd]; exact hb5.drew
  have HV5 := Lib.hid (HV4.out.below hb5d)
  have HB35 := Lib.hid (HB34.out.trans (hb5d.mono HB34.out.size))
  have hrd := (HR3.out.below HB35.out).more HB35.out.size
  have HARA := Lib.hid (harena_any HV5.out.ph)
  have HWD := Lib.hid hwd
  have q1 := conv_Bx hrd k1
  clear hb5 hb5d hwd HV4 HB34 hrd
  go_wp2_with fail
  refine wp_region_tail wd.heap.size [([0, 1, 2, 3, 4, 5, 6, 7, 11, 12], 8), ([], 9)] [10, 13, 14] [] (by kernel_rfl) (by kernel_rfl) (by kernel_rfl) (fun _ _ _ _ _ h => h) ?_
  rw [HWD.out]
  refine tail_cons (l := ?seg1) ?hseg1 ?_
  case hseg1 => simp only [pick, List.getElem?_toArray, List.getElem?_cons_succ, List.getElem?_cons_zero]; rfl
  repeat (go_big_quiet_step (fail))
  refine wpQuiet_nil ?_
  clear q1
  refine tail_call (vs := #[.pointer (some ⟨q, 0, none⟩)]) Tryz.call11 rfl rfl rfl (R := fun r w' => ∃ g' A' c', r = .pointer (some ⟨g', 0, none⟩) ∧ Ar w' 82 g' 32 4096 A' c' b1 ∧ Below wd.heap.size wd w') (HARA.out.mono ?_) wd.heap.size (Nat.le_refl _) ?_
  · rintro e w' ⟨g', A', c', rfl, ha, hb, _⟩
    exact ⟨_, rfl, hb, g', A', c', rfl, ha, hb⟩
  rintro r w6 _ ⟨g', A', c', rfl, ha6, hb6⟩
  have HBY := Lib.hid (bytes_any ha6 (by rw [HLEN.out]; omega) (by omega))
  have HB6 := Lib.hid hb6
  clear ha6 hb6 HARA
  refine tail_cons (l := []) rfl (wpQuiet_nil ?_)
  simp only [Act.put, List.setIfInBounds_toArray, List.set_cons_zero, List.set_cons_succ]
  refine tail_call2 (vs := #[.pointer (some ⟨g', 0, none⟩)]) Tryz.call10 rfl rfl rfl (R := fun r w' => ∃ A' c', r = .slice A' n c' ∧ Rd w' w'.heap.size A' n b1 ∧ Below w6.heap.size w6 w') (HBY.out.mono ?_) ?_
  · rintro e w' ⟨A9, c9, rfl, ho, hb⟩
    exact ⟨_, rfl, hb.mono HB6.out.size, A9, c9, by rw [HLEN.out], by rw [← HLEN.out]; exact Rd.ownR ho, hb⟩
  rintro r w7 _ ⟨A9, c9, rfl, hr9, hb7⟩
  have HB37 := Lib.hid (HB35.out.trans (((HB6.out.trans (hb7.mono HB6.out.size))).mono HB35.out.size))
  have HV7 := Lib.hid (HV5.out.below (HB6.out.trans (hb7.mono HB6.out.size)))
  refine ⟨w7.heap.size, Nat.le_trans HB6.out.size hb7.size, ?_⟩
  have q2 := conv_Bx hr9 c9
  refine tail_last (l := ?la2) (t := []) ?hla2 ?htl2 ?_
  case hla2 => simp only [pick, List.getElem?_toArray, List.getElem?_cons_succ, List.getElem?_cons_zero]; rfl
  case htl2 => rfl
  simp only [Act.put, List.setIfInBounds_toArray, List.set_cons_zero, List.set_cons_succ]
  repeat (go_big_quiet_step (fail))
  refine wpQuiet_nil ?_
  clear q2 hr9 hb7 HBY HB6 HV5 HB35
  have hgo := get_one HV7.out.ph.rd (by rw [HLEN.out]; omega) HV7.out.ph.cp
  have HGO := Lib.hid hgo
  clear hgo
  go_wp2_with fail
  refine (hmalloc_any HV7.out.ph 1 (by omega)).mono ?_
  rintro e w8 ⟨rfl, ht⟩
  rw [HGO.out]
  dsimp only [errN_0]
  obtain ⟨A8, c8, bs8, hv8, tc8, _⟩ := HV7.out.turn HB37.out.size ht (get_cap.trans HV7.out.ph.cp)
  have hb38 := HB37.out.trans (HV7.out.low HB37.out.size tc8)
  obtain ⟨we, hwe⟩ : ∃ we, w8.drew = we := ⟨_, rfl⟩
  have hb3e : Below w3.heap.size w3 we := by rw [← hwe]; exact hb38.drew
  have hare := HARL.out.below hb3e
  have hrde := (HR3.out.below hb3e).more hb3e.size
  have HBY := Lib.hid (bytes_any hare (by rw [HLEN.out]; omega) (by omega))
  have HEND := Lib.hid (HW3.out.trans (hb3e.mono HW3.out.size))
  have HWE := Lib.hid hwe
  have q1 := conv_Bx hrde k1
  clear ht hv8 tc8 hb38 hwe hb3e hare HV7 HB37
  go_wp2_with fail
  refine wp_region_tail we.heap.size [([0, 1, 2, 3, 4, 5, 6, 9, 10], 7), ([8, 11, 12, 13, 14], 15)] [16, 17, 18] [] (by kernel_rfl) (by kernel_rfl) (by kernel_rfl) (fun _ _ _ _ _ h => h) ?_
  rw [HWE.out]
  refine tail_cons (l := ?seg3) ?hseg3 ?_
  case hseg3 => simp only [pick, List.getElem?_toArray, List.getElem?_cons_succ, List.getElem?_cons_zero]; rfl
  repeat (go_big_quiet_step (fail))
  refine wpQuiet_nil ?_
  clear q1 hrde
  refine tail_call2 (vs := #[.pointer (some ⟨g, 0, none⟩)]) Tryz.call10 rfl rfl rfl (R := fun r w' => ∃ A' c', r = .slice A' n c' ∧ Rd w' w'.heap.size A' n b1 ∧ Below we.heap.size we w') (HBY.out.mono ?_) ?_
  · rintro e w' ⟨A9, c9, rfl, ho, hb⟩
    exact ⟨_, rfl, hb, A9, c9, by rw [HLEN.out], by rw [← HLEN.out]; exact Rd.ownR ho, hb⟩
  rintro r w9 _ ⟨A9, c9, rfl, hr9, hb9⟩
  have HFIN := Lib.hid (HEND.out.trans (hb9.mono HEND.out.size))
  refine ⟨w9.heap.size, hb9.size, ?_⟩
  have q2 := conv_Bx hr9 c9
  refine tail_cons (l := ?seg4) ?hseg4 ?_
  case hseg4 => simp only [pick, List.getElem?_toArray, List.getElem?_cons_succ, List.getElem?_cons_zero]; rfl
  simp only [Act.put, List.setIfInBounds_toArray, List.set_cons_zero, List.set_cons_succ]
  repeat (go_big_quiet_step (fail))
  refine wpQuiet_nil ?_
  clear q2 hr9 hb9 HBY
  refine tail_call (vs := #[.iface 55 (.int .i64 1)]) Tryz.call9 rfl rfl rfl (R := fun r w' => r = .int .i64 1 ∧ w' = w9) ((code_err w9 1 (by omega) (by omega)).mono ?_) w9.heap.size (Nat.le_refl _) ?_
  · rintro e w' ⟨rfl, rfl⟩
    exact ⟨_, rfl, Below.refl _ _, rfl, rfl⟩
  rintro r w10 _ ⟨rfl, rfl⟩
  refine tail_last (l := ?la5) (t := []) ?hla5 ?htl5 ?_
  case hla5 => simp only [pick, List.getElem?_toArray, List.getElem?_cons_succ, List.getElem?_cons_zero]; rfl
  case htl5 => rfl
  simp only [Act.put, List.setIfInBounds_toArray, List.set_cons_zero, List.set_cons_succ]
  repeat (go_big_quiet_step (fail))
  refine wpQuiet_nil ?_
  go_wp2
  go_ret
  exact ⟨rfl, HFIN.out⟩
theorem ho_any (w : World) (A0 : Option Addr) (k0 : Nat) (b0 : List UInt8) (hr0 : Rd w w.heap.size A0 b0.length b0) (hn0 : b0.length ≤ k0) (hm : k0 ≤ maxLen) (hA0 : A0 = none → k0 = 0) (u : Bool) :
    Calls Tryz.prog 3 #[.slice A0 b0.length k0, .bool u] w fun e w' => e = .returned (.bool true) ∧ Below w.heap.size w w' := by
  unfold maxLen at hm
  by_cases hn : 2000 < b0.length
  · exact ho_long w A0 _ k0 hn (by omega) u
  · cases u with
    | false =>
      cases hk : checkB b0 with
      | false => exact ho_FW w A0 k0 b0 b0 _ hr0 hn0 hA0 (by omega) rfl hk
      | true => exact ho_FR w A0 k0 b0 b0 _ hr0 hn0 hA0 (by omega) rfl hk
    | true =>
      cases hk : checkB ((rebuildB b0).getD b0) with
      | false => exact ho_TW w A0 k0 b0 _ _ hr0 hn0 hA0 (by omega) rfl hk
      | true => exact ho_TR w A0 k0 b0 _ _ hr0 hn0 hA0 (by omega) rfl hk
end Go.Proofs.YtbldlidpapdkbaaGreat
