/- Texts of mine, joined: Spec11, Law11a, Law11b. -/
import Derived.Test.YtcjjpffkmajehaaM7

/- What the program's check (layer 11) is to tell. -/
namespace Go.Proofs.Ytcjjpffkmajehaa
open Go.RowKit

def CheckC : Prop := ∀ (w : World) (g base cap c : Nat) (A : Option Addr) (bs : List UInt8) (x : Bool), Ar w 90 g base cap A c bs → base ≤ 4611686018427387904 → bs.length ≤ 16384 → checkB bs = x →
  Calls Try.prog 9 #[.pointer (some ⟨g, 0, none⟩)] w fun e w' => e = .returned (errV x 3) ∧ Below w.heap.size w w'
end Go.Proofs.Ytcjjpffkmajehaa

/- Layer 11's laws: the head (the document's example). -/
namespace Go.Proofs.Ytcjjpffkmajehaa
open Go.RowKit

theorem up11_bytes : ∃ z y : List UInt8, List.replicate 184 (0 : UInt8) = z ∧ [1] ++ List.replicate 183 (0 : UInt8) = y ∧ z.length = 184 ∧ y.length = 184 ∧ checkB z = true ∧ checkB y = false := by
  have hzl : (List.replicate 184 (0 : UInt8)).length = 184 := List.length_replicate
  have hz0 : ∀ p, p + 8 ≤ 184 → p % 8 = 0 → wordN (List.replicate 184 (0 : UInt8)) p = 0 := fun p hp _ => by
    have := wordN_zeros [] 184 p (by omega)
    rwa [List.append_nil] at this
  have hyl : ([1] ++ List.replicate 183 (0 : UInt8)).length = 184 := by rw [List.length_append, List.length_replicate]; rfl
  have hw : walkB (List.replicate 184 (0 : UInt8)) = some [] := walkB_tile (by rw [hzl]; rfl) (fun x hx => by cases hx)
  have h0 : Lists (List.replicate 184 (0 : UInt8)) [] (freeL []) := by
    have e0 : (fun _ => []) = freeL [] := by funext c; rfl
    rw [← e0]
    exact lists_none (by rw [hzl]; omega) (by rw [hzl]; omega) ⟨fun x hx => (by cases hx), fun x hx => (by cases hx)⟩ hz0
  refine ⟨_, _, rfl, rfl, hzl, hyl, ?_, ?_⟩
  · rw [checkB_lists hw h0 (by rw [hz0 0 (by omega) rfl]; omega)]
    rfl
  · refine head_turned hw h0 (by rw [hz0 0 (by omega) rfl]; omega) (by rw [hyl, hzl]) 0 (by omega) rfl ?_ (fun i hi => ?_)
    · rw [hz0 0 (by omega) rfl]
      have e : wordN ([1] ++ List.replicate 183 (0 : UInt8)) 0 = 1 := by
        unfold wordN
        rw [List.drop_zero, show List.take 8 ([1] ++ List.replicate 183 (0 : UInt8)) = [1, 0, 0, 0, 0, 0, 0, 0] from rfl]
        rfl
      rw [e]
      omega
    · have hi : 8 ≤ i := by omega
      rw [List.getElem?_append_right (by simp; omega), List.getElem?_replicate, List.getElem?_replicate]
      simp only [List.length_singleton]
      by_cases h : i < 184
      · rw [if_pos h, if_pos (by omega)]
      · rw [if_neg h, if_neg (by omega)]

set_option maxRecDepth 100000 in
set_option maxHeartbeats 2000000 in
theorem up11_any (HC : CheckC) (w : World) :
    Calls Try.prog 5 #[] w fun e w' => e = .returned (.bool true) ∧ Below w.heap.size w w' := by
  obtain ⟨z, y, hz, hy, hzl, hyl, cz, cy⟩ := up11_bytes
  have HMK : ∀ W : World, (Instr.makeSlice 25 (.int .i64 184) (.int .i64 184)).run Try.prog W = .ok (.slice (some ⟨W.heap.size, 0, none⟩) 184 184) (W.alloc (.cells (rowB z) 5)) := run_mk0 184 (by omega) z hz
  have f1 : Fill (w.alloc (.cells (rowB z) 5)) w.heap.size 5 z := Fill.made w _ _
  have b1 : Below w.heap.size w (w.alloc (.cells (rowB z) 5)) := (Below.refl _ _).alloc (Nat.le_refl _) _
  have hm := arena_any (w.alloc (.cells (rowB z) 5)) 16 1024 (some ⟨w.heap.size, 0, none⟩) 184 z f1.reads (by omega) (by omega) (by omega) (by omega) (by omega)
  rw [hzl] at hm
  have HM := Lib.hid hm
  have HB1 := Lib.hid b1
  have HLN := Lib.hid (And.intro hzl hyl)
  have HY := Lib.hid hy
  have CZ := Lib.hid cz
  have CY := Lib.hid cy
  have HC := Lib.hid HC
  clear hz hy hzl hyl cz cy f1 b1 hm
  go_enter Try.func5, Try.ntmps5
  go_wp2_with fail
  refine HM.out.mono ?_
  rintro e w1 ⟨g, A, c, rfl, har, hb, _, _⟩
  have e1 : rowB [1] = #[Value.int .u8 1] := rfl
  obtain ⟨w2, hw2⟩ : ∃ w2, w1.alloc (.cells #[.int .u8 1] 5) = w2 := ⟨_, rfl⟩
  have b2 : Below w1.heap.size w1 w2 := by rw [← hw2]; exact (Below.refl _ _).alloc (Nat.le_refl _) _
  have f2 : Fill w2 w1.heap.size 5 [1] := by
    have h := Fill.made w1 5 [1]
    rw [e1, hw2] at h
    exact h
  have own2 : w2.ownsRow w1.heap.size 5 1 (.slice (some ⟨w1.heap.size, 0, none⟩) 1 1) 1 ([1].map bv) := ⟨rfl, .inr ⟨w1.heap.size, 1, _, rfl, Nat.le_refl _, f2, Nat.le_refl _, by unfold maxLen; omega, rfl, rfl⟩⟩
  obtain ⟨A3, c3, w3, hr3, own3, gr3, _⟩ := run_append_zeros (P := Try.prog) w2 25 3 25 5 .i64 Try.underlying25 Try.underlying3 u8_infb w1.heap.size (some ⟨w1.heap.size, 0, none⟩) 1 [1] own2 183 (by show 1 + 183 ≤ 1000000; omega) b2.size
  have b3 : Below w1.heap.size w1 w3 := b2.grown gr3 b2.size (fun k hk => by cases hk; exact Nat.le_refl _)
  rw [show [(1 : UInt8)] ++ List.replicate 183 0 = y from HY.out] at own3
  have own3' : w3.ownsRow w1.heap.size 5 1 (.slice A3 184 c3) 184 (y.map bv) := own3
  have hm3 := arena_any w3 16 1024 A3 c3 y (by rw [HLN.out.2]; exact (own_facts own3').1) (by omega) (by omega) (by omega) (by omega) (by rw [HLN.out.2]; omega)
  rw [HLN.out.2] at hm3
  have HM3 := Lib.hid hm3
  have HR3 : Hid ((Builtin.append_ #[25, 3] 25 #[.slice (some ⟨w1.heap.size, 0, none⟩) 1 1, .int .i64 183]).run Try.prog w2 = .ok (.slice A3 184 c3) w3) := hr3
  have HB3 := Lib.hid ((HB1.out.trans (hb.mono HB1.out.size)).trans (b3.mono (by have := HB1.out.size; have := hb.size; omega)))
  have HAR := Lib.hid (har.below b3)
  have HW2 := Lib.hid hw2
  clear HM HMK HB1 har hb b2 f2 own2 hr3 own3 own3' gr3 b3 hm3 hw2 e1
  go_wp2_with (first
    | (rw [HW2.out])
    | (at_builtin; refine Lib.wpList_append_run _ rfl (.tmp 5) (.const (.int .i64 183)) 25 3 rfl _ _ rfl rfl _ _ HR3.out ?_)
    | fail)
  refine HM3.out.mono ?_
  rintro e w4 ⟨g4, A4, c4, rfl, har4, hb4, _, _⟩
  have har1 := HAR.out.below hb4
  have HB4 := Lib.hid (HB3.out.trans (hb4.mono HB3.out.size))
  have HAR4 := Lib.hid har4
  have HC1 := Lib.hid (HC.out w4 g 16 1024 c A z _ har1 (by omega) (by rw [HLN.out.1]; omega) CZ.out)
  clear har4 hb4 har1 HM3 HR3 HAR HB3
  go_wp2_with fail
  refine HC1.out.mono ?_
  rintro e w5 ⟨rfl, hb⟩
  have HC2 := Lib.hid (HC.out w5 g4 16 1024 c4 A4 y _ (HAR4.out.below hb) (by omega) (by rw [HLN.out.2]; omega) CY.out)
  have HB5 := Lib.hid (HB4.out.trans (hb.mono HB4.out.size))
  clear hb HAR4 HC1 HB4
  dsimp only [errV]
  go_wp2_with fail
  refine HC2.out.mono ?_
  rintro e w6 ⟨rfl, hb⟩
  have HB6 := Lib.hid (HB5.out.trans (hb.mono HB5.out.size))
  clear hb HC2 HB5
  dsimp only [errV]
  go_wp2_with fail
  refine (code_err _ 3 (by omega) (by omega)).mono ?_
  rintro e w7 ⟨rfl, rfl⟩
  go_wp2
  go_ret
  exact ⟨rfl, HB6.out⟩
end Go.Proofs.Ytcjjpffkmajehaa

/- The walk of CheckTells. -/
namespace Go.Proofs.Ytcjjpffkmajehaa
open Go.RowKit

/-- An operation that its guard leaves out. -/
theorem tail_off {P : Program} {ops : Array Oper} {Q : Exit → Act → World → Prop} {i B : Nat} {o : Oper} {a : Act} {w : World} {K : Act → World → Prop} (ho : ops[i]? = some o) (d : Option Tmp) (hd : o.dst = d) (hw : Region.wanted o (yielded ops a.tmps) = false) (hk : K (a.put d undef) w) : wpOp P ops Q i (fun a'' w'' => Below B w w'' ∧ K a'' w'') a w := by
  unfold wpOp
  simp only [ho]
  rw [if_neg (by simp [hw])]
  subst hd
  exact ⟨Below.refl _ _, hk⟩
theorem LaRd.more {w : World} {B B' : Nat} {A : Option Addr} {l : List La} (h : LaRd w B A l) (hB : B ≤ B') : LaRd w B' A l := fun hn => by
  obtain ⟨b, o, e, h1, hc⟩ := h hn
  exact ⟨b, o, e, Nat.lt_of_lt_of_le h1 hB, hc⟩

set_option maxRecDepth 100000 in
set_option maxHeartbeats 8000000 in
theorem ct_main (HC : CheckC) (w : World) (n : Nat) (hn : n ≤ 2000) (A1 : Option Addr) (k1 : Nat) (l : List La) (hL : LaRd w w.heap.size A1 l) (hl : l.length ≤ 60) (A2 : Option Addr) (k2 : Nat) (ps : List Int) (hI : IRd w w.heap.size A2 ps) (hps : ps.length ≤ 30) (hz : ∀ z ∈ ps, -9223372036854775808 ≤ z ∧ z ≤ 9223372036854775807) :
    Calls Try.prog 3 #[.int .i64 (n : Int), .slice A1 l.length k1, .slice A2 ps.length k2] w fun e w' => e = .returned (.bool true) ∧ Below w.heap.size w w' := by
  obtain ⟨ll, hll⟩ : ∃ ll, l.length = ll := ⟨_, rfl⟩
  obtain ⟨pl, hpl⟩ : ∃ pl, ps.length = pl := ⟨_, rfl⟩
  have s0 : decide ((n : Int) < 0) = false := decide_eq_false (by omega)
  have s1 : decide ((2000 : Int) < (n : Int)) = false := decide_eq_false (by omega)
  have s2 : decide ((60 : Int) < (ll : Int)) = false := decide_eq_false (by omega)
  have s3 : decide ((30 : Int) < (pl : Int)) = false := decide_eq_false (by omega)
  have hlb := fun (W : World) (hb : Below w.heap.size w W) => lbytes_any W n hn A1 k1 l ((hL.below hb).more hb.size) (by omega)
  rw [hll] at hlb ⊢
  rw [hpl]
  have HLB := Lib.hid hlb
  have HPL := Lib.hid hpl
  have HI := Lib.hid hI
  have HZ := Lib.hid hz
  have hpl30 : pl ≤ 30 := by omega
  have HC := Lib.hid HC
  have HUP := Lib.hid (up11_any HC.out)
  clear hll hpl hL hl hI hz hps hlb
  go_enter Try.func3, Try.ntmps3
  go_wp2_with fail
  refine (HUP.out _).mono ?_
  rintro e w1 ⟨rfl, hb⟩
  have HB1 := Lib.hid hb
  clear HUP hb
  go_wp2_with fail
  refine (HLB.out w1 HB1.out).mono ?_
  rintro e w2 ⟨A3, c3, bs, rfl, hr, hc3, hA3, hb⟩
  have HR3 := Lib.hid hr
  have HB2 := Lib.hid (HB1.out.trans (hb.mono HB1.out.size))
  clear hr hb HLB HB1 s0 s1 s2 s3
  go_wp2
  go_loopw [8, 9] (fun q i wr => ∃ (j : Nat) (A8 : Option Addr) (c8 : Nat) (bs : List UInt8), q = .slice A8 n c8 ∧ i = .int .i64 (j : Int) ∧ j ≤ pl ∧ Rd wr wr.heap.size A8 n bs ∧ n ≤ c8 ∧ (A8 = none → c8 = 0) ∧ Below w.heap.size w wr) (fun _ i _ => pl - (intOf i).toNat)
  case atStart => exact ⟨0, A3, c3, bs, rfl, rfl, Nat.zero_le _, HR3.out, hc3, hA3, HB2.out⟩
  case round =>
    obtain ⟨j, A8, c8, bs, rfl, rfl, hj, hr, hc8, hA8, hb⟩ := hrel
    by_cases hlt : j < pl
    · obtain ⟨z, hz⟩ : ∃ z, ps[j]? = some z := ⟨ps[j]'(by rw [HPL.out]; exact hlt), List.getElem?_eq_getElem _⟩
      obtain ⟨b1, o1, rfl, _, hc1⟩ := (HI.out.below hb) (by rw [HPL.out]; omega)
      have q1 := hc1 j z hz
      have hji : (j : Int) < (pl : Int) := by omega
      have HPu := Lib.hid (rput_any wr (fun _ => True) (fun _ _ => trivial) A8 c8 bs n hr.1 hr hc8 ⟨hA8, fun _ _ => trivial⟩ (by omega) z (HZ.out z (List.mem_of_getElem? hz)) _ rfl)
      have HB := Lib.hid hb
      clear hc1 hz hr hA8 hb
      go_wp2_with fail
      refine HPu.out.mono ?_
      rintro e w3 ⟨A9, c9, rfl, hr9, hc9, hA9, hb⟩
      have HR9 := Lib.hid hr9
      have HB9 := Lib.hid (HB.out.trans (hb.mono HB.out.size))
      clear hr9 hb HPu q1 HB
      go_wp2
      go_roundw
      case rel => exact ⟨j + 1, A9, c9, _, rfl, by go_num, by omega, HR9.out, hc9, hA9.1, HB9.out⟩
      case measure => simp only [intOf]; omega
    · have HR8 := Lib.hid hr
      have HB8 := Lib.hid hb
      clear hr hb HR3 HB2
      go_wp2
      go_loopw [8, 10] (fun q i wr => ∃ (j : Nat) (A8 : Option Addr) (c8 : Nat) (bs : List UInt8), q = .slice A8 n c8 ∧ i = .int .i64 (j : Int) ∧ j ≤ 2 ∧ Rd wr wr.heap.size A8 n bs ∧ n ≤ c8 ∧ (A8 = none → c8 = 0) ∧ Below w.heap.size w wr) (fun _ i _ => 2 - (intOf i).toNat)
      case atStart => exact ⟨0, A8, c8, bs, rfl, rfl, by omega, HR8.out, hc8, hA8, HB8.out⟩
      case round =>
        obtain ⟨j, A8, c8, bs, rfl, rfl, hj, hr, hc8, hA8, hb⟩ := hrel
        clear HR8 HB8
        by_cases hlt : j < 2
        · have hji : (j : Int) < 2 := by omega
          have hbn := hr.1
          have hma := arena_any wr 32 16384 A8 c8 bs (by rw [hbn]; exact hr) (by omega) (by omega) (by omega) (by omega) (by omega)
          rw [hbn] at hma
          have HMA := Lib.hid hma
          have HR0 := Lib.hid hr
          have HB0 := Lib.hid hb
          have HN := Lib.hid hbn
          have HA8 := Lib.hid hA8
          obtain ⟨x, hx⟩ : ∃ x, checkB bs = x := ⟨_, rfl⟩
          have HX := Lib.hid hx
          clear hr hb hma hbn hA8 hx
          go_wp2_with fail
          refine HMA.out.mono ?_
          rintro e w3 hmade
          obtain ⟨g, A, c, rfl, hst⟩ := St.made hmade
          have HST := Lib.hid hst
          clear hmade hst HMA
          go_wp2_with fail
          refine (HC.out w3 g 32 16384 c A bs x HST.out.ar (by omega) (by rw [HN.out]; omega) HX.out).mono ?_
          rintro e w4 ⟨rfl, hb⟩
          have hst4 := HST.out.below hb
          have hrk := rcheck_any w4 A8 c8 bs n HN.out (hst4.rd HR0.out) hc8 (by omega) x HX.out
          have HRK := Lib.hid hrk
          have HST4 := Lib.hid hst4
          clear hb hst4 hrk HST
          go_wp2_with fail
          refine HRK.out.mono ?_
          rintro e w5 ⟨rfl, hb⟩
          obtain ⟨wd, hwd⟩ : ∃ wd, w5.drew = wd := ⟨_, rfl⟩
          have hst5 := (HST4.out.below hb).below (Below.refl _ _).drew
          rw [hwd] at hst5
          have HR := Lib.hid (hst5.rd HR0.out)
          have HBY := Lib.hid (bytes_any hst5.ar (by rw [HN.out]; omega) (by omega))
          have HKD := Lib.hid (HB0.out.trans (hst5.bel.mono HB0.out.size))
          have HWD := Lib.hid hwd
          clear hb hst5 hwd HRK HST4 HR0 HB0 HX
          cases x <;> dsimp only [errV]
          · go_wp2_with fail
            refine wp_region_tail wd.heap.size [([0, 1, 2, 3, 4, 5, 6, 7, 8], 9), ([10, 11, 12, 13, 14, 17, 18], 15)] [16, 19, 20] [] (by kernel_rfl) (by kernel_rfl) (by kernel_rfl) (fun _ _ _ _ _ h => h) ?_
            rw [HWD.out]
            refine tail_cons (l := ?segAF) ?hsegAF ?_
            case hsegAF => simp only [pick, List.getElem?_toArray, List.getElem?_cons_succ, List.getElem?_cons_zero]; rfl
            repeat (go_big_quiet_step (fail))
            refine wpQuiet_nil ?_
            refine tail_call2 (vs := #[.iface 61 (.int .i64 3)]) Try.call11 rfl rfl rfl (R := fun r w' => r = .int .i64 3 ∧ w' = wd) ((code_err wd 3 (by omega) (by omega)).mono ?_) ?_
            · rintro e w' ⟨rfl, rfl⟩
              exact ⟨_, rfl, Below.refl _ _, rfl, rfl⟩
            rintro r w9 _ ⟨rfl, hw9⟩
            have hw9' := hw9.symm
            subst hw9'
            refine ⟨wd.heap.size, Nat.le_refl _, ?_⟩
            have qb := conv7 HR.out
            refine tail_cons (l := ?segBF) ?hsegBF ?_
            case hsegBF => simp only [pick, List.getElem?_toArray, List.getElem?_cons_succ, List.getElem?_cons_zero]; rfl
            simp only [Act.put, List.setIfInBounds_toArray, List.set_cons_zero, List.set_cons_succ]
            repeat (go_big_quiet_step (fail))
            refine wpQuiet_nil ?_
            clear qb
            refine tail_call2 (vs := #[.pointer (some ⟨g, 0, none⟩)]) Try.call12 rfl rfl rfl (R := fun r w' => ∃ A c, r = .slice A bs.length c ∧ Rd w' w'.heap.size A bs.length bs ∧ Below wd.heap.size wd w') (HBY.out.mono ?_) ?_
            · rintro e w' ⟨A', c', rfl, ho, hb⟩
              exact ⟨_, rfl, hb, A', c', rfl, (own_facts ho).1, hb⟩
            rintro r w13 _ ⟨A13, c13, rfl, r13, b13⟩
            refine ⟨w13.heap.size, b13.size, ?_⟩
            have qa := conv7 r13
            refine tail_last (l := ?segCF) (t := []) ?hsegCF ?htlCF ?_
            case hsegCF => simp only [pick, List.getElem?_toArray, List.getElem?_cons_succ, List.getElem?_cons_zero]; rfl
            case htlCF => rfl
            simp only [Act.put, List.setIfInBounds_toArray, List.set_cons_zero, List.set_cons_succ]
            repeat (go_big_quiet_step (fail))
            refine wpQuiet_nil ?_
            have hrb := rrebuild_any w13 (fun _ => True) (fun _ _ => trivial) A8 c8 bs n HN.out ((HR.out.below b13).more b13.size) hc8 ⟨HA8.out, fun _ _ => trivial⟩ (by omega) _ rfl
            have HRB := Lib.hid hrb
            have HK13 := Lib.hid (HKD.out.trans (b13.mono HKD.out.size))
            clear qa r13 b13 hrb HR HBY HKD
            go_wp2_with fail
            refine HRB.out.mono ?_
            rintro e w14 ⟨A14, c14, rfl, r14, hc14, hA14, hb⟩
            have HR14 := Lib.hid r14
            have HK14 := Lib.hid (HK13.out.trans (hb.mono HK13.out.size))
            clear r14 hb HRB HK13
            go_wp2
            go_roundw
            case rel => exact ⟨j + 1, A14, c14, _, rfl, by go_num, by omega, HR14.out, hc14, hA14.1, HK14.out⟩
            case measure => simp only [intOf]; omega
          · go_wp2_with fail
            refine wp_region_tail wd.heap.size [([0, 1, 2, 3, 4, 5, 6, 7, 8], 9), ([10, 11, 12, 13, 14, 17, 18], 15)] [16, 19, 20] [] (by kernel_rfl) (by kernel_rfl) (by kernel_rfl) (fun _ _ _ _ _ h => h) ?_
            rw [HWD.out]
            refine tail_cons (l := ?segAT) ?hsegAT ?_
            case hsegAT => simp only [pick, List.getElem?_toArray, List.getElem?_cons_succ, List.getElem?_cons_zero]; rfl
            repeat (go_big_quiet_step (fail))
            refine wpQuiet_nil ?_
            refine tail_off rfl (some 71) rfl rfl ⟨wd.heap.size, Nat.le_refl _, ?_⟩
            have qb := conv7 HR.out
            refine tail_cons (l := ?segBT) ?hsegBT ?_
            case hsegBT => simp only [pick, List.getElem?_toArray, List.getElem?_cons_succ, List.getElem?_cons_zero]; rfl
            simp only [Act.put, List.setIfInBounds_toArray, List.set_cons_zero, List.set_cons_succ]
            repeat (go_big_quiet_step (fail))
            refine wpQuiet_nil ?_
            clear qb
            refine tail_call2 (vs := #[.pointer (some ⟨g, 0, none⟩)]) Try.call12 rfl rfl rfl (R := fun r w' => ∃ A c, r = .slice A bs.length c ∧ Rd w' w'.heap.size A bs.length bs ∧ Below wd.heap.size wd w') (HBY.out.mono ?_) ?_
            · rintro e w' ⟨A', c', rfl, ho, hb⟩
              exact ⟨_, rfl, hb, A', c', rfl, (own_facts ho).1, hb⟩
            rintro r w13 _ ⟨A13, c13, rfl, r13, b13⟩
            refine ⟨w13.heap.size, b13.size, ?_⟩
            have qa := conv7 r13
            refine tail_last (l := ?segCT) (t := []) ?hsegCT ?htlCT ?_
            case hsegCT => simp only [pick, List.getElem?_toArray, List.getElem?_cons_succ, List.getElem?_cons_zero]; rfl
            case htlCT => rfl
            simp only [Act.put, List.setIfInBounds_toArray, List.set_cons_zero, List.set_cons_succ]
            repeat (go_big_quiet_step (fail))
            refine wpQuiet_nil ?_
            have hrb := rrebuild_any w13 (fun _ => True) (fun _ _ => trivial) A8 c8 bs n HN.out ((HR.out.below b13).more b13.size) hc8 ⟨HA8.out, fun _ _ => trivial⟩ (by omega) _ rfl
            have HRB := Lib.hid hrb
            have HK13 := Lib.hid (HKD.out.trans (b13.mono HKD.out.size))
            clear qa r13 b13 hrb HR HBY HKD
            go_wp2_with fail
            refine HRB.out.mono ?_
            rintro e w14 ⟨A14, c14, rfl, r14, hc14, hA14, hb⟩
            have HR14 := Lib.hid r14
            have HK14 := Lib.hid (HK13.out.trans (hb.mono HK13.out.size))
            clear r14 hb HRB HK13
            go_wp2
            go_roundw
            case rel => exact ⟨j + 1, A14, c14, _, rfl, by go_num, by omega, HR14.out, hc14, hA14.1, HK14.out⟩
            case measure => simp only [intOf]; omega
        · have HB9 := Lib.hid hb
          clear hr hb
          go_wp2
          go_ret
          exact ⟨rfl, HB9.out⟩

set_option maxRecDepth 100000 in
set_option maxHeartbeats 1000000 in
theorem ct_long (HC : CheckC) (w : World) (n : Int) (_hn : -9223372036854775808 ≤ n ∧ n ≤ 9223372036854775807) (A1 : Option Addr) (k1 ll : Nat) (A2 : Option Addr) (k2 pl : Nat) (t0 t1 t2 t3 : Bool) (s0 : decide (n < 0) = t0) (s1 : decide (2000 < n) = t1) (s2 : decide ((60 : Int) < (ll : Int)) = t2) (s3 : decide ((30 : Int) < (pl : Int)) = t3)
    (hf : t0 = true ∨ (t0 = false ∧ t1 = true) ∨ (t0 = false ∧ t1 = false ∧ t2 = true) ∨ (t0 = false ∧ t1 = false ∧ t2 = false ∧ t3 = true)) :
    Calls Try.prog 3 #[.int .i64 n, .slice A1 ll k1, .slice A2 pl k2] w fun e w' => e = .returned (.bool true) ∧ Below w.heap.size w w' := by
  have HUP := Lib.hid (up11_any HC)
  clear HC
  rcases hf with rfl | ⟨rfl, rfl⟩ | ⟨rfl, rfl, rfl⟩ | ⟨rfl, rfl, rfl, rfl⟩
  · go_enter Try.func3, Try.ntmps3
    go_wp2_with fail
    refine (HUP.out _).mono ?_
    rintro e w1 ⟨rfl, hb⟩
    have HK := Lib.hid hb
    clear hb
    go_wp2
    go_ret
    exact ⟨rfl, HK.out⟩
  · go_enter Try.func3, Try.ntmps3
    go_wp2_with fail
    refine (HUP.out _).mono ?_
    rintro e w1 ⟨rfl, hb⟩
    have HK := Lib.hid hb
    clear hb
    go_wp2
    go_ret
    exact ⟨rfl, HK.out⟩
  · go_enter Try.func3, Try.ntmps3
    go_wp2_with fail
    refine (HUP.out _).mono ?_
    rintro e w1 ⟨rfl, hb⟩
    have HK := Lib.hid hb
    clear hb
    go_wp2
    go_ret
    exact ⟨rfl, HK.out⟩
  · go_enter Try.func3, Try.ntmps3
    go_wp2_with fail
    refine (HUP.out _).mono ?_
    rintro e w1 ⟨rfl, hb⟩
    have HK := Lib.hid hb
    clear hb
    go_wp2
    go_ret
    exact ⟨rfl, HK.out⟩

theorem ct_any (HC : CheckC) (w : World) (n : Int) (hn : -9223372036854775808 ≤ n ∧ n ≤ 9223372036854775807) (A1 : Option Addr) (k1 : Nat) (l : List La) (hL : LaRd w w.heap.size A1 l) (A2 : Option Addr) (k2 : Nat) (ps : List Int) (hI : IRd w w.heap.size A2 ps) (hz : ∀ z ∈ ps, -9223372036854775808 ≤ z ∧ z ≤ 9223372036854775807) :
    Calls Try.prog 3 #[.int .i64 n, .slice A1 l.length k1, .slice A2 ps.length k2] w fun e w' => e = .returned (.bool true) ∧ Below w.heap.size w w' := by
  by_cases h : 0 ≤ n ∧ n ≤ 2000 ∧ l.length ≤ 60 ∧ ps.length ≤ 30
  · obtain ⟨m, rfl⟩ : ∃ m : Nat, n = (m : Int) := ⟨n.toNat, by omega⟩
    exact ct_main HC w m (by omega) A1 k1 l hL h.2.2.1 A2 k2 ps hI h.2.2.2 hz
  · refine ct_long HC w n hn A1 k1 l.length A2 k2 ps.length _ _ _ _ rfl rfl rfl rfl ?_
    simp only [decide_eq_true_eq, decide_eq_false_iff_not]
    omega
end Go.Proofs.Ytcjjpffkmajehaa

