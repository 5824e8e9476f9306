/- Texts of mine, joined: Law15g. -/
import Derived.Test.YtbemaoncakcnjaaGreatM12

/- The walk of ImageOf (genlaw15g.py). -/
namespace Go.Proofs.YtbemaoncakcnjaaGreat
open Go.RowKit

theorem check_walk {bs : List UInt8} (h : checkB bs = true) : ∃ l, walkB bs = some l := by
  cases hw : walkB bs with
  | some l => exact ⟨l, rfl⟩
  | none =>
    unfold checkB at h
    rw [hw] at h
    cases h
theorem same_of (w : World) (n : Int) (A1 A2 C1 C2 : Option Addr) (k1 k2 e1 e2 : Nat) (l : List Bk) (d : List (List UInt8)) (m dl : Nat) (hm : l.length = m) (hdl : d.length = dl) (hr : RkRd w w.heap.size A1 (l.map toR)) (hd : DtRd w w.heap.size A2 d) (hr2 : RkRd w w.heap.size C1 (l.map toR)) (hd2 : DtRd w w.heap.size C2 d) (hl : m ≤ 1000000) (hdl2 : dl ≤ 1000000) :
    Calls Tryz.prog 8 #[.agg #[.int .i64 n, .slice A1 m k1, .slice A2 dl k2], .agg #[.int .i64 n, .slice C1 m e1, .slice C2 dl e2]] w fun e w' => e = .returned (.bool true) ∧ Below w.heap.size w w' := by
  subst hm hdl
  have h := rsame_eq w n A1 A2 C1 C2 k1 k2 e1 e2 (l.map toR) d hr hd hr2 hd2 (by rw [List.length_map]; exact hl) hdl2
  rw [List.length_map] at h
  exact h
theorem bk_of_rk {w : World} {B : Nat} {A : Option Addr} {l : List Bk} (h : RkRd w B A (l.map toR)) : BkRd w B A l := fun hn => by
  obtain ⟨b, o, e, hB, hc⟩ := h (by rw [List.length_map]; exact hn)
  refine ⟨b, o, e, hB, fun j x hx => ?_⟩
  obtain ⟨h0, h1, h2, _⟩ := hc j (toR x) (by rw [List.getElem?_map, hx]; rfl)
  exact ⟨h0, h1, h2⟩
theorem like_of (w : World) (n : Int) (A1 A2 : Option Addr) (a1 b1 a2 b2 : Nat) :
    Calls Tryz.prog 9 #[.agg #[.int .i64 n, .slice A1 a1 b1, .slice A2 a2 b2]] w fun e w' => e = .returned (.agg #[.int .i64 n, .slice A1 a1 b1, .slice A2 a2 b2]) ∧ Below w.heap.size w w' := like_any w n A1 A2 a1 b1 a2 b2
set_option maxRecDepth 100000 in
set_option maxHeartbeats 4000000 in
theorem iof_long (w : World) (cap : Int) (_hcap : -9223372036854775808 ≤ cap ∧ cap ≤ 9223372036854775807) (A1 : Option Addr) (k1 : Nat) (l : List De) (_hL : DeRd w w.heap.size A1 l) (A2 : Option Addr) (k2 : Nat) (b : List UInt8) (_hrb : Rd w w.heap.size A2 b.length b) (_hnc : b.length ≤ k2) (_hk2 : k2 ≤ 9223372036854775807) (fl : Nat) (_hfl : fl < 256) (hbig : 2000 < b.length ∨ 60 < l.length) :
    Calls Tryz.prog 3 #[.int .i64 cap, .slice A1 l.length k1, .slice A2 b.length k2, .int .u8 (fl : Int)] w fun e w' => e = .returned (.bool true) ∧ Below w.heap.size w w' := by
  have HUP := Lib.hid (up15_any w)
  obtain ⟨bn, hbn⟩ : ∃ bn, b.length = bn := ⟨_, rfl⟩
  obtain ⟨ll, hll⟩ : ∃ ll, l.length = ll := ⟨_, rfl⟩
  rw [hbn, hll] at hbig
  rw [hbn, hll]
  clear _hL _hrb _hnc hbn hll
  by_cases hb1 : 2000 < bn
  · have g1 : decide (2000 < bn) = true := decide_eq_true hb1
    have g1' : decide ((2000 : Int) < (bn : Int)) = true := decide_eq_true (by omega)
    clear hbig
    go_enter Tryz.func3, Tryz.ntmps3
    go_wp2_with fail
    refine HUP.out.mono ?_
    rintro e w1 ⟨rfl, hb1⟩
    have HB := Lib.hid hb1
    clear hb1 HUP
    go_wp2
    go_ret
    exact ⟨rfl, HB.out⟩
  · have g1 : decide (2000 < bn) = false := decide_eq_false hb1
    have g1' : decide ((2000 : Int) < (bn : Int)) = false := decide_eq_false (by omega)
    have g2 : decide (60 < ll) = true := decide_eq_true (by omega)
    have g2' : decide ((60 : Int) < (ll : Int)) = true := decide_eq_true (by omega)
    clear hbig
    go_enter Tryz.func3, Tryz.ntmps3
    go_wp2_with fail
    refine HUP.out.mono ?_
    rintro e w1 ⟨rfl, hb1⟩
    have HB := Lib.hid hb1
    clear hb1 HUP
    go_wp2
    go_ret
    exact ⟨rfl, HB.out⟩
set_option maxRecDepth 100000 in
set_option maxHeartbeats 4000000 in
theorem iof_no (w : World) (cap : Int) (hcap : -9223372036854775808 ≤ cap ∧ cap ≤ 9223372036854775807) (A1 : Option Addr) (k1 : Nat) (l : List De) (hL : DeRd w w.heap.size A1 l) (A2 : Option Addr) (k2 : Nat) (b : List UInt8) (hrb : Rd w w.heap.size A2 b.length b) (hnc : b.length ≤ k2) (_hk2 : k2 ≤ 9223372036854775807) (fl : Nat) (_hfl : fl < 256) (hb2 : b.length ≤ 2000) (hl2 : l.length ≤ 60) (hck : checkB b = false) :
    Calls Tryz.prog 3 #[.int .i64 cap, .slice A1 l.length k1, .slice A2 b.length k2, .int .u8 (fl : Int)] w fun e w' => e = .returned (.bool true) ∧ Below w.heap.size w w' := by
  have HUP := Lib.hid (up15_any w)
  obtain ⟨z, hz⟩ : ∃ z, List.replicate 184 (0 : UInt8) = z := ⟨_, rfl⟩
  have hzl : z.length = 184 := by rw [← hz]; exact List.length_replicate
  have HMKZ := Lib.hid (fun W => run_mk0 184 (by omega) z hz W)
  have HZL := Lib.hid hzl
  have HZZ := Lib.hid hz
  clear hz hzl
  obtain ⟨bn, hbn⟩ : ∃ bn, b.length = bn := ⟨_, rfl⟩
  obtain ⟨ll, hll⟩ : ∃ ll, l.length = ll := ⟨_, rfl⟩
  rw [hbn] at hb2 hrb hnc
  rw [hll] at hl2
  have g1 : decide (2000 < bn) = false := decide_eq_false (by omega)
  have g1' : decide ((2000 : Int) < (bn : Int)) = false := decide_eq_false (by omega)
  have g2 : decide (60 < ll) = false := decide_eq_false (by omega)
  have g2' : decide ((60 : Int) < (ll : Int)) = false := decide_eq_false (by omega)
  have HRB := Lib.hid hrb
  have HLD := Lib.hid hL
  have HBN := Lib.hid hbn
  have HLL := Lib.hid hll
  have HAR := Lib.hid (fun W (hb : Below w.heap.size w W) => arena_any W 32 4096 A2 k2 b (by rw [hbn]; exact (hrb.below hb).more hb.size) (by omega) (by omega) (by omega) (by omega) (by omega))
  have HCK := Lib.hid (fun W (hb : Below w.heap.size w W) => rcheck_any W A2 k2 b bn hbn ((hrb.below hb).more hb.size) hnc (by omega) _ rfl)
  have HOF := Lib.hid (fun W c A g (h : Ar W 92 g 32 4096 A c b) => imof_no W g 32 4096 c A b h (by omega) (by omega) hck)
  rw [hck] at HCK
  rw [hbn] at HAR
  rw [hbn, hll]
  clear hrb hL hbn hll hck
  go_enter Tryz.func3, Tryz.ntmps3
  go_wp2_with fail
  refine HUP.out.mono ?_
  rintro e w1 ⟨rfl, hb1⟩
  have HB := Lib.hid hb1
  clear hb1 HUP
  go_wp2_with fail
  refine (HAR.out w1 HB.out).mono ?_
  intro e w2 hmade
  obtain ⟨gr, Ar_, cr, rfl, hst⟩ := St.made hmade
  have S2 := Lib.hid (hst.lift HB.out)
  clear hst hmade HAR
  go_wp2_with fail
  refine (HOF.out w2 cr Ar_ gr S2.out.ar).mono ?_
  rintro e w3 ⟨rfl, hb3⟩
  obtain ⟨w4, hw4⟩ : ∃ w4, w3.alloc (.cells #[.int .i64 0, .slice none 0 0, .slice none 0 0] 31) = w4 := ⟨_, rfl⟩
  have hb4 : Below w3.heap.size w3 w4 := by rw [← hw4]; exact (Below.refl _ _).alloc (Nat.le_refl _) _
  have HB4 := Lib.hid (S2.out.bel.trans ((hb3.trans (hb4.mono hb3.size)).mono S2.out.bel.size))
  clear hb3 hb4 HOF
  subst hw4
  go_wp2_with fail
  refine (HCK.out _ HB4.out).mono ?_
  rintro e w5 ⟨rfl, hb5⟩
  have HBA := Lib.hid (HB4.out.trans (hb5.mono HB4.out.size))
  clear hb5 HCK
  go_wp2_with fail
  refine (code15_err w5 3 (by omega) (by omega)).mono ?_
  rintro e wA ⟨rfl, rfl⟩
  by_cases hbad : cap < 1024 ∨ 16384 < cap
  · have HAN := Lib.hid (fun W B n k => larena_no W 64 (by omega) cap hcap hbad B n k)
    have HMK : ∀ W : World, (Instr.makeSlice 23 (.int .i64 184) (.int .i64 184)).run Tryz.prog W = .ok (.slice (some ⟨W.heap.size, 0, none⟩) 184 184) (W.alloc (.cells (rowB z) 5)) := HMKZ.out
    obtain ⟨wB, hwB⟩ : ∃ wB, w5.alloc (.cells (rowB z) 5) = wB := ⟨_, rfl⟩
    have hbB : Below w5.heap.size w5 wB := by rw [← hwB]; exact (Below.refl _ _).alloc (Nat.le_refl _) _
    have HBB := Lib.hid (HBA.out.trans (hbB.mono HBA.out.size))
    have HWB := Lib.hid hwB
    clear hwB hbB
    go_wp2_with (first | (rw [HWB.out]) | fail)
    refine (HAN.out wB _ 184 184).mono ?_
    rintro e wC ⟨rfl, rfl⟩
    clear HAN HMK
    rcases hbad with h | h
    · have g3 : decide (cap < 1024) = true := decide_eq_true h
      go_wp2
      go_ret
      exact ⟨rfl, HBB.out⟩
    · have g3 : decide (cap < 1024) = false := decide_eq_false (by omega)
      have g4 : decide (16384 < cap) = true := decide_eq_true h
      go_wp2
      go_ret
      exact ⟨rfl, HBB.out⟩
  · obtain ⟨cn, rfl⟩ : ∃ cn : Nat, cap = (cn : Int) := ⟨cap.toNat, by omega⟩
    have hc1 : 1024 ≤ cn := by omega
    have hc2 : cn ≤ 16384 := by omega
    clear hbad
    have HMK : ∀ W : World, (Instr.makeSlice 23 (.int .i64 184) (.int .i64 184)).run Tryz.prog W = .ok (.slice (some ⟨W.heap.size, 0, none⟩) 184 184) (W.alloc (.cells (rowB z) 5)) := HMKZ.out
    have har := fun (W : World) (B : Option Addr) (k : Nat) (hr : Rd W W.heap.size B 184 z) => arena_any W 64 cn B k z (by rw [HZL.out]; exact hr) (by omega) (by omega) hc1 hc2 (by rw [HZL.out]; omega)
    rw [HZL.out] at har
    have HAR2 := Lib.hid har
    have R0 := Lib.hid (rt_zero HZZ.out cn (by omega))
    obtain ⟨wB, hwB⟩ : ∃ wB, w5.alloc (.cells (rowB z) 5) = wB := ⟨_, rfl⟩
    have hbB : Below w5.heap.size w5 wB := by rw [← hwB]; exact (Below.refl _ _).alloc (Nat.le_refl _) _
    have f2 : Fill wB w5.heap.size 5 z := by rw [← hwB]; exact Fill.made w5 _ _
    have hrd := f2.reads
    rw [HZL.out] at hrd
    have HRD := Lib.hid hrd
    have HBB := Lib.hid (HBA.out.trans (hbB.mono HBA.out.size))
    have HWB := Lib.hid hwB
    clear hwB hbB f2 hrd har
    go_wp2_with (first | (rw [HWB.out]) | fail)
    refine (HAR2.out wB _ 184 HRD.out).mono ?_
    intro e wC hmade
    obtain ⟨g, A, c, rfl, hst⟩ := St.made hmade
    have S3 := Lib.hid (hst.lift HBB.out)
    clear hst hmade HAR2 HRD HMK
    go_wp2_with fail
    refine (hNew_any wC cn).mono ?_
    rintro e wD ⟨p, rfl, hm, hb⟩
    obtain ⟨F4, a4⟩ := Al.made S3.out hm hb
    have A4 := Lib.hid a4
    clear hm hb a4 S3
    go_wp2
    go_loopw [17] (fun i wr => ∃ (j : Nat) (A : Option Addr) (c : Nat) (bs : List UInt8) (F : Nat → Prop) (H : Hp), i = .int .i64 (j : Int) ∧ j ≤ ll ∧ Al w wr g 64 cn A c bs F p H ∧ Rt bs H ∧ H.Dl ∧ H.cap = cn) (fun i _ => ll - (intOf i).toNat)
    case atStart => exact ⟨0, A, c, z, F4, _, rfl, Nat.zero_le _, A4.out, R0.out, rfl, rfl⟩
    case round =>
      obtain ⟨j, A, c, bs, F, H, rfl, hj, ha, hrt, hd, hc⟩ := hrel
      clear A4 R0
      by_cases hlt : j < ll
      · obtain ⟨x, hx⟩ : ∃ x, l[j]? = some x := ⟨l[j]'(by rw [HLL.out]; exact hlt), List.getElem?_eq_getElem _⟩
        obtain ⟨b1, o1, rfl, _, hc1'⟩ := (HLD.out.below ha.st.bel) (by rw [HLL.out]; omega)
        obtain ⟨q0, q1, q2, q3, _, hn, hm⟩ := hc1' j x hx
        obtain ⟨xw, xn, xm, xr⟩ := x
        dsimp only at q0 q1 q2 q3 hn hm
        have hji : (j : Int) < (ll : Int) := by omega
        have HDO := Lib.hid (ldo_any takeK giveK trimK usedK ha hrt hc (by omega) hc2 hd xw xn xm xr hn hm)
        clear hc1' hx ha hrt hd hc hn hm
        go_wp2_with fail
        refine HDO.out.mono ?_
        rintro e w5 ⟨rfl, A5, c5, bs5, F5, H5, ha, hrt, hd, hc⟩
        have A5 := Lib.hid ha
        have R5 := Lib.hid hrt
        have D5 := Lib.hid hd
        have C5 := Lib.hid hc
        clear ha hrt hd hc HDO q0 q1 q2 q3
        go_wp2
        go_roundw
        case rel => exact ⟨j + 1, _, _, _, _, _, by go_num, by omega, A5.out, R5.out, D5.out, C5.out⟩
        case measure => simp only [intOf]; omega
      · have hok := hrt.ok (hc ▸ hc2) hd
        have hn512 := hok.n
        have hlen : bs.length ≤ 16384 := Nat.le_trans (hc ▸ hrt.len) hc2
        obtain ⟨hin, _, hmem⟩ := tiles_in hrt.walk hlen
        have HAX := Lib.hid ha
        have HRX := Lib.hid hrt
        have HCX := Lib.hid hc
        obtain ⟨mb, hmb⟩ : ∃ mb, H.blks.length = mb := ⟨_, rfl⟩
        rw [hmb] at hn512
        have HMB := Lib.hid hmb
        have HLE := Lib.hid hlen
        obtain ⟨bl, hbl⟩ : ∃ bl, bs.length = bl := ⟨_, rfl⟩
        have hbl2 : bl ≤ 16384 := by omega
        have hmem2 : ∀ x ∈ H.blks, 184 ≤ x.off ∧ x.off + x.size ≤ bl ∧ isSz (x.size : Int) = true := by rw [← hbl]; exact hmem
        have HMEM := Lib.hid hmem2
        have HBL := Lib.hid hbl
        clear ha hrt hd hc hok hlen hin hmem hmem2 hmb hbl
        go_wp2_with fail
        go_loopw [18] (fun i wr => ∃ (j : Nat) (A : Option Addr) (c : Nat) (bs : List UInt8) (F : Nat → Prop), i = .int .i64 (j : Int) ∧ j ≤ mb ∧ Al w wr g 64 cn A c bs F p H ∧ Rt bs H ∧ bs.length = bl) (fun i _ => mb - (intOf i).toNat)
        case atStart => exact ⟨0, A, c, bs, F, rfl, Nat.zero_le _, HAX.out, HRX.out, HBL.out⟩
        case round =>
          obtain ⟨i, A, c, bs, F, rfl, hi, ha, hrt, hbs⟩ := hrel
          obtain ⟨Vb, Vd, gl, cs, hm⟩ := ha.hm
          obtain ⟨B1, e1, rfl⟩ := own_sl hm.ob
          have r1 := hm.c1
          have hpl := hm.lt
          rw [HMB.out] at r1
          by_cases hlt2 : i < mb
          · obtain ⟨x, hx⟩ : ∃ x, H.blks[i]? = some x := ⟨H.blks[i]'(by rw [HMB.out]; exact hlt2), List.getElem?_eq_getElem _⟩
            obtain ⟨m1, m2, m3⟩ := HMEM.out x (List.mem_of_getElem? hx)
            have m4 := (isSz_iff _).1 m3
            obtain ⟨gb, ob, rfl, hgb, hcb⟩ := (BkRd.of_own hm.ob) (by rw [HMB.out]; omega)
            obtain ⟨x0, x1, x2⟩ := hcb i x hx
            have hxm := List.mem_of_getElem? hx
            obtain ⟨w4', hw4⟩ : ∃ w4, wr.alloc (.cells #[.int .i64 (x.off : Int), .int .i64 (x.size : Int), .bool x.used] 51) = w4 := ⟨_, rfl⟩
            have hb04 : Below wr.heap.size wr w4' := by rw [← hw4]; exact (Below.refl _ _).alloc (Nat.le_refl _) _
            have n4 : w4'.heap[wr.heap.size]? = some (.cells #[.int .i64 (x.off : Int), .int .i64 (x.size : Int), .bool x.used] 51 (0, 0)) := by rw [← hw4]; exact heap_alloc_new wr _
            have A4' := Lib.hid (ha.below hb04)
            obtain ⟨y0, y1, y2⟩ := rk_cells n4
            have hl4 := heap_lt1 n4
            have HW4' := Lib.hid hw4
            have HRT := Lib.hid hrt
            have HBS := Lib.hid hbs
            have hii : (i : Int) < (mb : Int) := by omega
            have HXM := Lib.hid hxm
            obtain ⟨xo, xz, xu⟩ := x
            dsimp only at x0 x1 x2 y0 y1 y2 m1 m2 m3 m4 hw4
            dsimp only at HW4'
            clear hx hcb hw4 hb04 n4 ha hrt hbs hm hxm
            cases xu with
            | false =>
              go_wp2_with (first | (rw [HW4'.out]) | fail)
              go_roundw
              case rel => exact ⟨i + 1, A, c, bs, F, by go_num, by omega, A4'.out, HRT.out, HBS.out⟩
              case measure => simp only [intOf]; omega
            | true =>
              obtain ⟨q, hq⟩ : ∃ q, xz = q + 16 := ⟨xz - 16, by omega⟩
              obtain ⟨ub, hub⟩ : ∃ ub : UInt8, ub.toNat = (fl + i % 256) % 256 := ⟨UInt8.ofNat ((fl + i % 256) % 256), by simp⟩
              obtain ⟨im, him⟩ : ∃ im, i % 256 = im := ⟨_, rfl⟩
              rw [him] at hub
              have hcv : ∀ W : World, (convert 3 5 (.int .i64 (i : Int))).run Tryz.prog W = .ok (.int .u8 (im : Int)) W := fun W => by
                rw [← him, Int.natCast_emod]
                rfl
              have hv : ((fl : Int) + (im : Int)) % 256 = (ub.toNat : Int) := by rw [hub, Int.natCast_emod, Int.natCast_add]; rfl
              obtain ⟨lo, hlo⟩ : ∃ lo, xo + 8 = lo := ⟨_, rfl⟩
              obtain ⟨ad, hadd⟩ : ∃ ad, 64 + lo = ad := ⟨_, rfl⟩
              have i1 : (xo : Int) + 8 = (lo : Int) := by omega
              have i2 : (64 : Int) + (lo : Int) = (ad : Int) := by omega
              have i3 : (xz : Int) - 16 = (q : Int) := by omega
              have t1 : lo ≤ 20000 := by omega
              have t2 : ad ≤ 20000 := by omega
              have t3 : q ≤ 20000 := by omega
              have HFILL := Lib.hid (fill_ok A4'.out.st.ar (by rw [HBS.out]; omega) ad q lo ub (by omega) (by omega) (by omega) (by rw [HBS.out]; omega))
              have hagr := agree_lay (bs := bs) (x := ⟨xo, xz, true⟩) lo (List.replicate q ub) (by dsimp only; omega) (by rw [List.length_replicate]; dsimp only; omega) (by rw [HBS.out]; dsimp only; omega)
              have HRT2 := Lib.hid (HRT.out.fill HXM.out rfl hagr)
              have HBS2 : Hid ((lay bs lo (List.replicate q ub)).length = bl) := (show _ = _ by rw [hagr.1]; exact HBS.out)
              clear him hub hq hlo hadd hagr m1 m2 m3 m4
              go_wp2_with (first | (rw [HW4'.out]) | fail)
              (try rw [hv])
              with_reducible refine HFILL.out.mono ?_
              rintro e w5 ⟨rfl, hbec⟩
              obtain ⟨A6, c6, a6⟩ := A4'.out.became hbec
              have A6x := Lib.hid a6
              clear hbec a6 y0 y1 y2 hl4 x0 x1 x2 r1 hpl
              go_wp2
              go_roundw
              case rel => exact ⟨i + 1, A6, c6, _, F, by go_num, by omega, A6x.out, HRT2.out, HBS2.out⟩
              case measure => simp only [intOf]; omega
          · have HA := Lib.hid ha
            have HRT := Lib.hid hrt
            have HBS := Lib.hid hbs
            have HO1 := Lib.hid (imof_ok wr g 64 cn c A bs H.blks ha.st.ar (by omega) (by omega) hrt.chk hrt.walk)
            have hof := ofD_le bs H.blks
            obtain ⟨dn, hdn⟩ : ∃ dn, (ofD bs H.blks).length = dn := ⟨_, rfl⟩
            rw [hbs, HMB.out, hdn] at HO1
            rw [HMB.out, hdn] at hof
            have HDN := Lib.hid hdn
            have hwkx := hrt.walk
            have HRO2 := Lib.hid (fun W A' c' (h : Rd W W.heap.size A' bs.length bs) (hc : bs.length ≤ c') (hc' : c' ≤ 9223372036854775807) => rof_any W A' c' W.heap.size bs H.blks h (Nat.le_refl _) hc hc' (by omega) hwkx)
            rw [hbs, HMB.out, hdn] at HRO2
            clear ha hrt hbs hdn hwkx hm
            go_wp2_with fail
            refine HO1.out.mono ?_
            rintro e w5 ⟨X1, X2, x1, x2, rfl, hrk, hdt, hb5⟩
            obtain ⟨w6, hw6⟩ : ∃ w6, w5.alloc (.cells #[.int .i64 (bl : Int), .slice X1 mb x1, .slice X2 dn x2] 31) = w6 := ⟨_, rfl⟩
            have hb6 : Below w5.heap.size w5 w6 := by rw [← hw6]; exact (Below.refl _ _).alloc (Nat.le_refl _) _
            have n6 : w6.heap[w5.heap.size]? = some (.cells #[.int .i64 (bl : Int), .slice X1 mb x1, .slice X2 dn x2] 31 (0, 0)) := by rw [← hw6]; exact heap_alloc_new w5 _
            have HRK6 := Lib.hid ((hrk.below hb6).more hb6.size)
            have HDT6 := Lib.hid ((hdt.below hb6).more hb6.size)
            have HA6 := Lib.hid (HA.out.below (hb5.trans (hb6.mono hb5.size)))
            have HN6 := Lib.hid n6
            have HW6 := Lib.hid hw6
            obtain ⟨a0, a1, a2⟩ := rk_cells n6
            have la := heap_lt1 n6
            clear hrk hdt hb5 hb6 hw6 n6 HO1 HA r1 hpl
            go_wp2_with (first | (rw [HW6.out]) | fail)
            refine (like_of w6 (bl : Int) X1 X2 mb x1 dn x2).mono ?_
            rintro e w7 ⟨rfl, hb7⟩
            have HRK7 := Lib.hid ((HRK6.out.below hb7).more hb7.size)
            have HDT7 := Lib.hid ((HDT6.out.below hb7).more hb7.size)
            have HN7 := Lib.hid ((hb7.block _ (heap_lt1 HN6.out)).trans HN6.out)
            have HA7 := Lib.hid (HA6.out.below hb7)
            have HBY := Lib.hid (bytes_any HA7.out.st.ar (by rw [HBS.out]; omega) (by omega))
            clear hb7 a0 a1 a2 la
            go_wp2_with fail
            refine HBY.out.mono ?_
            intro e w8 hnew
            unfold NewRow at hnew
            rw [HBS.out] at hnew
            obtain ⟨A8, c8, rfl, ho8, hb8⟩ := hnew
            have hb184 := (walkB_tiles HRT.out.walk).1
            obtain ⟨g8, rfl, hc8, hc8m, _, _⟩ := own_atB ho8 (by rw [HBS.out] at hb184; omega)
            have HRK8 := Lib.hid ((HRK7.out.below hb8).more hb8.size)
            have HDT8 := Lib.hid ((HDT7.out.below hb8).more hb8.size)
            have HN8 := Lib.hid ((hb8.block _ (heap_lt1 HN7.out)).trans HN7.out)
            have HA8 := Lib.hid (HA7.out.below hb8)
            have hO := HRO2.out w8 (some ⟨g8, 0, none⟩) c8 (own_reads ho8) hc8 hc8m
            have HO := Lib.hid hO
            clear hO ho8 hb8 hb184 HRO2 HBY
            go_wp2_with fail
            refine HO.out.mono ?_
            rintro e w9 ⟨Y1, Y2, y1, y2, rfl, hrk, hdt, hb9⟩
            have HS := Lib.hid (same_of w9 (bl : Int) X1 X2 Y1 Y2 x1 x2 y1 y2 H.blks (ofD bs H.blks) mb dn HMB.out HDN.out ((HRK8.out.below hb9).more hb9.size) ((HDT8.out.below hb9).more hb9.size) hrk hdt (by omega) (by omega))
            have HRK9 := Lib.hid ((HRK8.out.below hb9).more hb9.size)
            have HN9 := Lib.hid ((hb9.block _ (heap_lt1 HN8.out)).trans HN8.out)
            have HA9 := Lib.hid (HA8.out.below hb9)
            clear hrk hdt hb9 HO
            go_wp2_with fail
            refine HS.out.mono ?_
            rintro e w10 ⟨rfl, hb10⟩
            obtain ⟨wd, hwd⟩ : ∃ wd, w10.drew = wd := ⟨_, rfl⟩
            have hbd : Below w10.heap.size w10 wd := by rw [← hwd]; exact (Below.refl _ _).drew
            have hb9d := hb10.trans (hbd.mono hb10.size)
            have HRKD := Lib.hid ((HRK9.out.below hb9d).more hb9d.size)
            have nd := (hb9d.block _ (heap_lt1 HN9.out)).trans HN9.out
            have HAD := Lib.hid (HA9.out.below hb9d)
            obtain ⟨Vb, Vd, gl, cs, hm⟩ := HAD.out.hm
            obtain ⟨B1, e1, rfl⟩ := own_sl hm.ob
            have r1 := hm.c1
            have hpl := hm.lt
            have hBK := BkRd.of_own hm.ob
            have hsm := blocks_same wd X1 B1 x1 e1 H.blks (bk_of_rk HRKD.out) hBK (by rw [HMB.out]; omega)
            rw [HMB.out] at r1 hsm
            have HSMB := Lib.hid hsm
            obtain ⟨a0, a1, a2⟩ := rk_cells nd
            have la := heap_lt1 nd
            have HBE := Lib.hid HAD.out.st.bel
            have HWD := Lib.hid hwd
            clear hwd hbd hb10 hb9d nd hm hBK hsm HS
            go_wp2_with fail
            refine wp_region_tail wd.heap.size [([0, 1, 2, 3, 4, 5, 6, 7, 8, 9, 10, 11, 12, 13, 14], 15)] [16, 17, 18] [] (by kernel_rfl) (by kernel_rfl) (by kernel_rfl) (fun _ _ _ _ _ h => h) ?_
            rw [HWD.out]
            have u0 : ∀ z : LaterB wd.heap.size wd, z.val.cell? ⟨w5.heap.size, 1, none⟩ = some (.slice X1 mb x1) := fun z => (z.ext.cell (p := ⟨w5.heap.size, 1, none⟩) la).trans a1
            have u1 : ∀ z : LaterB wd.heap.size wd, z.val.cell? ⟨p, 1, none⟩ = some (.slice B1 mb e1) := fun z => (z.ext.cell (p := ⟨p, 1, none⟩) hpl).trans r1
            refine tail_cons (l := ?segZ) ?hsegZ ?_
            case hsegZ => simp only [pick, List.getElem?_toArray, List.getElem?_cons_succ, List.getElem?_cons_zero]; rfl
            repeat (go_big_quiet_step (fail))
            refine wpQuiet_nil ?_
            clear u0 u1
            refine tail_call2 (vs := #[.slice X1 mb x1, .slice B1 mb e1]) Tryz.call16 rfl rfl rfl (R := fun r w' => r = .int .i64 1 ∧ Below wd.heap.size wd w') (HSMB.out.mono ?_) ?_
            · rintro e w' ⟨rfl, hb⟩
              exact ⟨_, rfl, hb, rfl, hb⟩
            rintro r w11 _ ⟨rfl, hb11⟩
            refine ⟨w11.heap.size, hb11.size, ?_⟩
            have HF := Lib.hid (HBE.out.trans (hb11.mono HBE.out.size))
            clear hb11
            simp only [Act.put, List.setIfInBounds_toArray, List.set_cons_zero, List.set_cons_succ]
            refine tail_last (l := ?lastZ) (t := []) ?hlastZ rfl ?_
            case hlastZ => simp only [pick, List.getElem?_toArray, List.getElem?_cons_succ, List.getElem?_cons_zero]; rfl
            repeat (go_big_quiet_step (fail))
            refine wpQuiet_nil ?_
            go_wp2
            go_ret
            exact ⟨rfl, HF.out⟩
set_option maxRecDepth 100000 in
set_option maxHeartbeats 4000000 in
theorem iof_yes (w : World) (cap : Int) (hcap : -9223372036854775808 ≤ cap ∧ cap ≤ 9223372036854775807) (A1 : Option Addr) (k1 : Nat) (l : List De) (hL : DeRd w w.heap.size A1 l) (A2 : Option Addr) (k2 : Nat) (b : List UInt8) (hrb : Rd w w.heap.size A2 b.length b) (hnc : b.length ≤ k2) (hk2 : k2 ≤ 9223372036854775807) (fl : Nat) (_hfl : fl < 256) (hb2 : b.length ≤ 2000) (hl2 : l.length ≤ 60) (hck : checkB b = true) :
    Calls Tryz.prog 3 #[.int .i64 cap, .slice A1 l.length k1, .slice A2 b.length k2, .int .u8 (fl : Int)] w fun e w' => e = .returned (.bool true) ∧ Below w.heap.size w w' := by
  have HUP := Lib.hid (up15_any w)
  obtain ⟨z, hz⟩ : ∃ z, List.replicate 184 (0 : UInt8) = z := ⟨_, rfl⟩
  have hzl : z.length = 184 := by rw [← hz]; exact List.length_replicate
  have HMKZ := Lib.hid (fun W => run_mk0 184 (by omega) z hz W)
  have HZL := Lib.hid hzl
  have HZZ := Lib.hid hz
  clear hz hzl
  obtain ⟨bn, hbn⟩ : ∃ bn, b.length = bn := ⟨_, rfl⟩
  obtain ⟨ll, hll⟩ : ∃ ll, l.length = ll := ⟨_, rfl⟩
  rw [hbn] at hb2 hrb hnc
  rw [hll] at hl2
  have g1 : decide (2000 < bn) = false := decide_eq_false (by omega)
  have g1' : decide ((2000 : Int) < (bn : Int)) = false := decide_eq_false (by omega)
  have g2 : decide (60 < ll) = false := decide_eq_false (by omega)
  have g2' : decide ((60 : Int) < (ll : Int)) = false := decide_eq_false (by omega)
  have HRB := Lib.hid hrb
  have HLD := Lib.hid hL
  have HBN := Lib.hid hbn
  have HLL := Lib.hid hll
  have HAR := Lib.hid (fun W (hb : Below w.heap.size w W) => arena_any W 32 4096 A2 k2 b (by rw [hbn]; exact (hrb.below hb).more hb.size) (by omega) (by omega) (by omega) (by omega) (by omega))
  have HCK := Lib.hid (fun W (hb : Below w.heap.size w W) => rcheck_any W A2 k2 b bn hbn ((hrb.below hb).more hb.size) hnc (by omega) _ rfl)
  obtain ⟨l0, hl0⟩ := check_walk hck
  have HOF := Lib.hid (fun W c A g (h : Ar W 92 g 32 4096 A c b) => imof_ok W g 32 4096 c A b l0 h (by omega) (by omega) hck hl0)
  have HRO := Lib.hid (fun W (hb : Below w.heap.size w W) => rof_any W A2 k2 W.heap.size b l0 (by rw [hbn]; exact (hrb.below hb).more hb.size) (Nat.le_refl _) (by omega) hk2 (by omega) hl0)
  have hms := (tiles_in hl0 (by omega)).2.1
  have hds := ofD_le b l0
  obtain ⟨m0, hm0⟩ : ∃ m0, l0.length = m0 := ⟨_, rfl⟩
  obtain ⟨d0, hd0⟩ : ∃ d0, (ofD b l0).length = d0 := ⟨_, rfl⟩
  rw [hbn, hm0, hd0] at HOF HRO
  rw [hm0] at hms hds
  rw [hd0] at hds
  have HSM := Lib.hid (fun W X1 X2 Y1 Y2 x1 x2 y1 y2 (h1 : RkRd W W.heap.size X1 (l0.map toR)) (h2 : DtRd W W.heap.size X2 (ofD b l0)) (h3 : RkRd W W.heap.size Y1 (l0.map toR)) (h4 : DtRd W W.heap.size Y2 (ofD b l0)) => same_of W (bn : Int) X1 X2 Y1 Y2 x1 x2 y1 y2 l0 (ofD b l0) m0 d0 hm0 hd0 h1 h2 h3 h4 (by omega) (by omega))
  have HLK := Lib.hid (fun W X1 X2 x1 x2 => like_of W (bn : Int) X1 X2 m0 x1 d0 x2)
  rw [hck] at HCK
  rw [hbn] at HAR
  rw [hbn, hll]
  clear hrb hL hbn hll hck hl0 hm0 hd0
  go_enter Tryz.func3, Tryz.ntmps3
  go_wp2_with fail
  refine HUP.out.mono ?_
  rintro e w1 ⟨rfl, hb1⟩
  have HB := Lib.hid hb1
  clear hb1 HUP
  go_wp2_with fail
  refine (HAR.out w1 HB.out).mono ?_
  intro e w2 hmade
  obtain ⟨gr, Ar_, cr, rfl, hst⟩ := St.made hmade
  have S2 := Lib.hid (hst.lift HB.out)
  clear hst hmade HAR
  go_wp2_with fail
  refine (HOF.out w2 cr Ar_ gr S2.out.ar).mono ?_
  rintro e w3 ⟨X1, X2, x1, x2, rfl, hrk, hdt, hb3⟩
  obtain ⟨w4, hw4⟩ : ∃ w4, w3.alloc (.cells #[.int .i64 (bn : Int), .slice X1 m0 x1, .slice X2 d0 x2] 31) = w4 := ⟨_, rfl⟩
  have hb4 : Below w3.heap.size w3 w4 := by rw [← hw4]; exact (Below.refl _ _).alloc (Nat.le_refl _) _
  have n4 : w4.heap[w3.heap.size]? = some (.cells #[.int .i64 (bn : Int), .slice X1 m0 x1, .slice X2 d0 x2] 31 (0, 0)) := by rw [← hw4]; exact heap_alloc_new w3 _
  have HB4 := Lib.hid (S2.out.bel.trans ((hb3.trans (hb4.mono hb3.size)).mono S2.out.bel.size))
  have HRK4 := Lib.hid ((hrk.below hb4).more hb4.size)
  have HDT4 := Lib.hid ((hdt.below hb4).more hb4.size)
  have HW4 := Lib.hid hw4
  have HN4 := Lib.hid n4
  clear hb3 hb4 hw4 HOF n4 hrk hdt
  go_wp2_with (first | (rw [HW4.out]) | fail)
  refine (HCK.out w4 HB4.out).mono ?_
  rintro e w5 ⟨rfl, hb5⟩
  have HB5 := Lib.hid (HB4.out.trans (hb5.mono HB4.out.size))
  have n5 := (hb5.block _ (heap_lt1 HN4.out)).trans HN4.out
  have HRK5 := Lib.hid ((HRK4.out.below hb5).more hb5.size)
  have HDT5 := Lib.hid ((HDT4.out.below hb5).more hb5.size)
  obtain ⟨a0, a1, a2⟩ := rk_cells n5
  have la := heap_lt1 n5
  clear hb5 HCK n5
  go_wp2_with fail
  refine (HLK.out w5 X1 X2 x1 x2).mono ?_
  rintro e w6 ⟨rfl, hb6⟩
  have HB6 := Lib.hid (HB5.out.trans (hb6.mono HB5.out.size))
  have HRK6 := Lib.hid ((HRK5.out.below hb6).more hb6.size)
  have HDT6 := Lib.hid ((HDT5.out.below hb6).more hb6.size)
  clear hb6
  go_wp2_with fail
  refine (HRO.out w6 HB6.out).mono ?_
  rintro e w7 ⟨Y1, Y2, y1, y2, rfl, hrk, hdt, hb7⟩
  have HB7 := Lib.hid (HB6.out.trans (hb7.mono HB6.out.size))
  have HS7 := Lib.hid (HSM.out w7 X1 X2 Y1 Y2 x1 x2 y1 y2 ((HRK6.out.below hb7).more hb7.size) ((HDT6.out.below hb7).more hb7.size) hrk hdt)
  clear hb7 hrk hdt HRO HSM HLK
  go_wp2_with fail
  refine HS7.out.mono ?_
  rintro e wA ⟨rfl, hbA⟩
  have HBA := Lib.hid (HB7.out.trans (hbA.mono HB7.out.size))
  clear hbA HS7 a0 a1 a2 la
  by_cases hbad : cap < 1024 ∨ 16384 < cap
  · have HAN := Lib.hid (fun W B n k => larena_no W 64 (by omega) cap hcap hbad B n k)
    have HMK : ∀ W : World, (Instr.makeSlice 23 (.int .i64 184) (.int .i64 184)).run Tryz.prog W = .ok (.slice (some ⟨W.heap.size, 0, none⟩) 184 184) (W.alloc (.cells (rowB z) 5)) := HMKZ.out
    obtain ⟨wB, hwB⟩ : ∃ wB, wA.alloc (.cells (rowB z) 5) = wB := ⟨_, rfl⟩
    have hbB : Below wA.heap.size wA wB := by rw [← hwB]; exact (Below.refl _ _).alloc (Nat.le_refl _) _
    have HBB := Lib.hid (HBA.out.trans (hbB.mono HBA.out.size))
    have HWB := Lib.hid hwB
    clear hwB hbB
    go_wp2_with (first | (rw [HWB.out]) | fail)
    refine (HAN.out wB _ 184 184).mono ?_
    rintro e wC ⟨rfl, rfl⟩
    clear HAN HMK
    rcases hbad with h | h
    · have g3 : decide (cap < 1024) = true := decide_eq_true h
      go_wp2
      go_ret
      exact ⟨rfl, HBB.out⟩
    · have g3 : decide (cap < 1024) = false := decide_eq_false (by omega)
      have g4 : decide (16384 < cap) = true := decide_eq_true h
      go_wp2
      go_ret
      exact ⟨rfl, HBB.out⟩
  · obtain ⟨cn, rfl⟩ : ∃ cn : Nat, cap = (cn : Int) := ⟨cap.toNat, by omega⟩
    have hc1 : 1024 ≤ cn := by omega
    have hc2 : cn ≤ 16384 := by omega
    clear hbad
    have HMK : ∀ W : World, (Instr.makeSlice 23 (.int .i64 184) (.int .i64 184)).run Tryz.prog W = .ok (.slice (some ⟨W.heap.size, 0, none⟩) 184 184) (W.alloc (.cells (rowB z) 5)) := HMKZ.out
    have har := fun (W : World) (B : Option Addr) (k : Nat) (hr : Rd W W.heap.size B 184 z) => arena_any W 64 cn B k z (by rw [HZL.out]; exact hr) (by omega) (by omega) hc1 hc2 (by rw [HZL.out]; omega)
    rw [HZL.out] at har
    have HAR2 := Lib.hid har
    have R0 := Lib.hid (rt_zero HZZ.out cn (by omega))
    obtain ⟨wB, hwB⟩ : ∃ wB, wA.alloc (.cells (rowB z) 5) = wB := ⟨_, rfl⟩
    have hbB : Below wA.heap.size wA wB := by rw [← hwB]; exact (Below.refl _ _).alloc (Nat.le_refl _) _
    have f2 : Fill wB wA.heap.size 5 z := by rw [← hwB]; exact Fill.made wA _ _
    have hrd := f2.reads
    rw [HZL.out] at hrd
    have HRD := Lib.hid hrd
    have HBB := Lib.hid (HBA.out.trans (hbB.mono HBA.out.size))
    have HWB := Lib.hid hwB
    clear hwB hbB f2 hrd har
    go_wp2_with (first | (rw [HWB.out]) | fail)
    refine (HAR2.out wB _ 184 HRD.out).mono ?_
    intro e wC hmade
    obtain ⟨g, A, c, rfl, hst⟩ := St.made hmade
    have S3 := Lib.hid (hst.lift HBB.out)
    clear hst hmade HAR2 HRD HMK
    go_wp2_with fail
    refine (hNew_any wC cn).mono ?_
    rintro e wD ⟨p, rfl, hm, hb⟩
    obtain ⟨F4, a4⟩ := Al.made S3.out hm hb
    have A4 := Lib.hid a4
    clear hm hb a4 S3
    go_wp2
    go_loopw [17] (fun i wr => ∃ (j : Nat) (A : Option Addr) (c : Nat) (bs : List UInt8) (F : Nat → Prop) (H : Hp), i = .int .i64 (j : Int) ∧ j ≤ ll ∧ Al w wr g 64 cn A c bs F p H ∧ Rt bs H ∧ H.Dl ∧ H.cap = cn) (fun i _ => ll - (intOf i).toNat)
    case atStart => exact ⟨0, A, c, z, F4, _, rfl, Nat.zero_le _, A4.out, R0.out, rfl, rfl⟩
    case round =>
      obtain ⟨j, A, c, bs, F, H, rfl, hj, ha, hrt, hd, hc⟩ := hrel
      clear A4 R0
      by_cases hlt : j < ll
      · obtain ⟨x, hx⟩ : ∃ x, l[j]? = some x := ⟨l[j]'(by rw [HLL.out]; exact hlt), List.getElem?_eq_getElem _⟩
        obtain ⟨b1, o1, rfl, _, hc1'⟩ := (HLD.out.below ha.st.bel) (by rw [HLL.out]; omega)
        obtain ⟨q0, q1, q2, q3, _, hn, hm⟩ := hc1' j x hx
        obtain ⟨xw, xn, xm, xr⟩ := x
        dsimp only at q0 q1 q2 q3 hn hm
        have hji : (j : Int) < (ll : Int) := by omega
        have HDO := Lib.hid (ldo_any takeK giveK trimK usedK ha hrt hc (by omega) hc2 hd xw xn xm xr hn hm)
        clear hc1' hx ha hrt hd hc hn hm
        go_wp2_with fail
        refine HDO.out.mono ?_
        rintro e w5 ⟨rfl, A5, c5, bs5, F5, H5, ha, hrt, hd, hc⟩
        have A5 := Lib.hid ha
        have R5 := Lib.hid hrt
        have D5 := Lib.hid hd
        have C5 := Lib.hid hc
        clear ha hrt hd hc HDO q0 q1 q2 q3
        go_wp2
        go_roundw
        case rel => exact ⟨j + 1, _, _, _, _, _, by go_num, by omega, A5.out, R5.out, D5.out, C5.out⟩
        case measure => simp only [intOf]; omega
      · have hok := hrt.ok (hc ▸ hc2) hd
        have hn512 := hok.n
        have hlen : bs.length ≤ 16384 := Nat.le_trans (hc ▸ hrt.len) hc2
        obtain ⟨hin, _, hmem⟩ := tiles_in hrt.walk hlen
        have HAX := Lib.hid ha
        have HRX := Lib.hid hrt
        have HCX := Lib.hid hc
        obtain ⟨mb, hmb⟩ : ∃ mb, H.blks.length = mb := ⟨_, rfl⟩
        rw [hmb] at hn512
        have HMB := Lib.hid hmb
        have HLE := Lib.hid hlen
        obtain ⟨bl, hbl⟩ : ∃ bl, bs.length = bl := ⟨_, rfl⟩
        have hbl2 : bl ≤ 16384 := by omega
        have hmem2 : ∀ x ∈ H.blks, 184 ≤ x.off ∧ x.off + x.size ≤ bl ∧ isSz (x.size : Int) = true := by rw [← hbl]; exact hmem
        have HMEM := Lib.hid hmem2
        have HBL := Lib.hid hbl
        clear ha hrt hd hc hok hlen hin hmem hmem2 hmb hbl
        go_wp2_with fail
        go_loopw [18] (fun i wr => ∃ (j : Nat) (A : Option Addr) (c : Nat) (bs : List UInt8) (F : Nat → Prop), i = .int .i64 (j : Int) ∧ j ≤ mb ∧ Al w wr g 64 cn A c bs F p H ∧ Rt bs H ∧ bs.length = bl) (fun i _ => mb - (intOf i).toNat)
        case atStart => exact ⟨0, A, c, bs, F, rfl, Nat.zero_le _, HAX.out, HRX.out, HBL.out⟩
        case round =>
          obtain ⟨i, A, c, bs, F, rfl, hi, ha, hrt, hbs⟩ := hrel
          obtain ⟨Vb, Vd, gl, cs, hm⟩ := ha.hm
          obtain ⟨B1, e1, rfl⟩ := own_sl hm.ob
          have r1 := hm.c1
          have hpl := hm.lt
          rw [HMB.out] at r1
          by_cases hlt2 : i < mb
          · obtain ⟨x, hx⟩ : ∃ x, H.blks[i]? = some x := ⟨H.blks[i]'(by rw [HMB.out]; exact hlt2), List.getElem?_eq_getElem _⟩
            obtain ⟨m1, m2, m3⟩ := HMEM.out x (List.mem_of_getElem? hx)
            have m4 := (isSz_iff _).1 m3
            obtain ⟨gb, ob, rfl, hgb, hcb⟩ := (BkRd.of_own hm.ob) (by rw [HMB.out]; omega)
            obtain ⟨x0, x1, x2⟩ := hcb i x hx
            have hxm := List.mem_of_getElem? hx
            obtain ⟨w4', hw4⟩ : ∃ w4, wr.alloc (.cells #[.int .i64 (x.off : Int), .int .i64 (x.size : Int), .bool x.used] 51) = w4 := ⟨_, rfl⟩
            have hb04 : Below wr.heap.size wr w4' := by rw [← hw4]; exact (Below.refl _ _).alloc (Nat.le_refl _) _
            have n4 : w4'.heap[wr.heap.size]? = some (.cells #[.int .i64 (x.off : Int), .int .i64 (x.size : Int), .bool x.used] 51 (0, 0)) := by rw [← hw4]; exact heap_alloc_new wr _
            have A4' := Lib.hid (ha.below hb04)
            obtain ⟨y0, y1, y2⟩ := rk_cells n4
            have hl4 := heap_lt1 n4
            have HW4' := Lib.hid hw4
            have HRT := Lib.hid hrt
            have HBS := Lib.hid hbs
            have hii : (i : Int) < (mb : Int) := by omega
            have HXM := Lib.hid hxm
            obtain ⟨xo, xz, xu⟩ := x
            dsimp only at x0 x1 x2 y0 y1 y2 m1 m2 m3 m4 hw4
            dsimp only at HW4'
            clear hx hcb hw4 hb04 n4 ha hrt hbs hm hxm
            cases xu with
            | false =>
              go_wp2_with (first | (rw [HW4'.out]) | fail)
              go_roundw
              case rel => exact ⟨i + 1, A, c, bs, F, by go_num, by omega, A4'.out, HRT.out, HBS.out⟩
              case measure => simp only [intOf]; omega
            | true =>
              obtain ⟨q, hq⟩ : ∃ q, xz = q + 16 := ⟨xz - 16, by omega⟩
              obtain ⟨ub, hub⟩ : ∃ ub : UInt8, ub.toNat = (fl + i % 256) % 256 := ⟨UInt8.ofNat ((fl + i % 256) % 256), by simp⟩
              obtain ⟨im, him⟩ : ∃ im, i % 256 = im := ⟨_, rfl⟩
              rw [him] at hub
              have hcv : ∀ W : World, (convert 3 5 (.int .i64 (i : Int))).run Tryz.prog W = .ok (.int .u8 (im : Int)) W := fun W => by
                rw [← him, Int.natCast_emod]
                rfl
              have hv : ((fl : Int) + (im : Int)) % 256 = (ub.toNat : Int) := by rw [hub, Int.natCast_emod, Int.natCast_add]; rfl
              obtain ⟨lo, hlo⟩ : ∃ lo, xo + 8 = lo := ⟨_, rfl⟩
              obtain ⟨ad, hadd⟩ : ∃ ad, 64 + lo = ad := ⟨_, rfl⟩
              have i1 : (xo : Int) + 8 = (lo : Int) := by omega
              have i2 : (64 : Int) + (lo : Int) = (ad : Int) := by omega
              have i3 : (xz : Int) - 16 = (q : Int) := by omega
              have t1 : lo ≤ 20000 := by omega
              have t2 : ad ≤ 20000 := by omega
              have t3 : q ≤ 20000 := by omega
              have HFILL := Lib.hid (fill_ok A4'.out.st.ar (by rw [HBS.out]; omega) ad q lo ub (by omega) (by omega) (by omega) (by rw [HBS.out]; omega))
              have hagr := agree_lay (bs := bs) (x := ⟨xo, xz, true⟩) lo (List.replicate q ub) (by dsimp only; omega) (by rw [List.length_replicate]; dsimp only; omega) (by rw [HBS.out]; dsimp only; omega)
              have HRT2 := Lib.hid (HRT.out.fill HXM.out rfl hagr)
              have HBS2 : Hid ((lay bs lo (List.replicate q ub)).length = bl) := (show _ = _ by rw [hagr.1]; exact HBS.out)
              clear him hub hq hlo hadd hagr m1 m2 m3 m4
              go_wp2_with (first | (rw [HW4'.out]) | fail)
              (try rw [hv])
              with_reducible refine HFILL.out.mono ?_
              rintro e w5 ⟨rfl, hbec⟩
              obtain ⟨A6, c6, a6⟩ := A4'.out.became hbec
              have A6x := Lib.hid a6
              clear hbec a6 y0 y1 y2 hl4 x0 x1 x2 r1 hpl
              go_wp2
              go_roundw
              case rel => exact ⟨i + 1, A6, c6, _, F, by go_num, by omega, A6x.out, HRT2.out, HBS2.out⟩
              case measure => simp only [intOf]; omega
          · have HA := Lib.hid ha
            have HRT := Lib.hid hrt
            have HBS := Lib.hid hbs
            have HO1 := Lib.hid (imof_ok wr g 64 cn c A bs H.blks ha.st.ar (by omega) (by omega) hrt.chk hrt.walk)
            have hof := ofD_le bs H.blks
            obtain ⟨dn, hdn⟩ : ∃ dn, (ofD bs H.blks).length = dn := ⟨_, rfl⟩
            rw [hbs, HMB.out, hdn] at HO1
            rw [HMB.out, hdn] at hof
            have HDN := Lib.hid hdn
            have hwkx := hrt.walk
            have HRO2 := Lib.hid (fun W A' c' (h : Rd W W.heap.size A' bs.length bs) (hc : bs.length ≤ c') (hc' : c' ≤ 9223372036854775807) => rof_any W A' c' W.heap.size bs H.blks h (Nat.le_refl _) hc hc' (by omega) hwkx)
            rw [hbs, HMB.out, hdn] at HRO2
            clear ha hrt hbs hdn hwkx hm
            go_wp2_with fail
            refine HO1.out.mono ?_
            rintro e w5 ⟨X1, X2, x1, x2, rfl, hrk, hdt, hb5⟩
            obtain ⟨w6, hw6⟩ : ∃ w6, w5.alloc (.cells #[.int .i64 (bl : Int), .slice X1 mb x1, .slice X2 dn x2] 31) = w6 := ⟨_, rfl⟩
            have hb6 : Below w5.heap.size w5 w6 := by rw [← hw6]; exact (Below.refl _ _).alloc (Nat.le_refl _) _
            have n6 : w6.heap[w5.heap.size]? = some (.cells #[.int .i64 (bl : Int), .slice X1 mb x1, .slice X2 dn x2] 31 (0, 0)) := by rw [← hw6]; exact heap_alloc_new w5 _
            have HRK6 := Lib.hid ((hrk.below hb6).more hb6.size)
            have HDT6 := Lib.hid ((hdt.below hb6).more hb6.size)
            have HA6 := Lib.hid (HA.out.below (hb5.trans (hb6.mono hb5.size)))
            have HN6 := Lib.hid n6
            have HW6 := Lib.hid hw6
            obtain ⟨a0, a1, a2⟩ := rk_cells n6
            have la := heap_lt1 n6
            clear hrk hdt hb5 hb6 hw6 n6 HO1 HA r1 hpl
            go_wp2_with (first | (rw [HW6.out]) | fail)
            refine (like_of w6 (bl : Int) X1 X2 mb x1 dn x2).mono ?_
            rintro e w7 ⟨rfl, hb7⟩
            have HRK7 := Lib.hid ((HRK6.out.below hb7).more hb7.size)
            have HDT7 := Lib.hid ((HDT6.out.below hb7).more hb7.size)
            have HN7 := Lib.hid ((hb7.block _ (heap_lt1 HN6.out)).trans HN6.out)
            have HA7 := Lib.hid (HA6.out.below hb7)
            have HBY := Lib.hid (bytes_any HA7.out.st.ar (by rw [HBS.out]; omega) (by omega))
            clear hb7 a0 a1 a2 la
            go_wp2_with fail
            refine HBY.out.mono ?_
            intro e w8 hnew
            unfold NewRow at hnew
            rw [HBS.out] at hnew
            obtain ⟨A8, c8, rfl, ho8, hb8⟩ := hnew
            have hb184 := (walkB_tiles HRT.out.walk).1
            obtain ⟨g8, rfl, hc8, hc8m, _, _⟩ := own_atB ho8 (by rw [HBS.out] at hb184; omega)
            have HRK8 := Lib.hid ((HRK7.out.below hb8).more hb8.size)
            have HDT8 := Lib.hid ((HDT7.out.below hb8).more hb8.size)
            have HN8 := Lib.hid ((hb8.block _ (heap_lt1 HN7.out)).trans HN7.out)
            have HA8 := Lib.hid (HA7.out.below hb8)
            have hO := HRO2.out w8 (some ⟨g8, 0, none⟩) c8 (own_reads ho8) hc8 hc8m
            have HO := Lib.hid hO
            clear hO ho8 hb8 hb184 HRO2 HBY
            go_wp2_with fail
            refine HO.out.mono ?_
            rintro e w9 ⟨Y1, Y2, y1, y2, rfl, hrk, hdt, hb9⟩
            have HS := Lib.hid (same_of w9 (bl : Int) X1 X2 Y1 Y2 x1 x2 y1 y2 H.blks (ofD bs H.blks) mb dn HMB.out HDN.out ((HRK8.out.below hb9).more hb9.size) ((HDT8.out.below hb9).more hb9.size) hrk hdt (by omega) (by omega))
            have HRK9 := Lib.hid ((HRK8.out.below hb9).more hb9.size)
            have HN9 := Lib.hid ((hb9.block _ (heap_lt1 HN8.out)).trans HN8.out)
            have HA9 := Lib.hid (HA8.out.below hb9)
            clear hrk hdt hb9 HO
            go_wp2_with fail
            refine HS.out.mono ?_
            rintro e w10 ⟨rfl, hb10⟩
            obtain ⟨wd, hwd⟩ : ∃ wd, w10.drew = wd := ⟨_, rfl⟩
            have hbd : Below w10.heap.size w10 wd := by rw [← hwd]; exact (Below.refl _ _).drew
            have hb9d := hb10.trans (hbd.mono hb10.size)
            have HRKD := Lib.hid ((HRK9.out.below hb9d).more hb9d.size)
            have nd := (hb9d.block _ (heap_lt1 HN9.out)).trans HN9.out
            have HAD := Lib.hid (HA9.out.below hb9d)
            obtain ⟨Vb, Vd, gl, cs, hm⟩ := HAD.out.hm
            obtain ⟨B1, e1, rfl⟩ := own_sl hm.ob
            have r1 := hm.c1
            have hpl := hm.lt
            have hBK := BkRd.of_own hm.ob
            have hsm := blocks_same wd X1 B1 x1 e1 H.blks (bk_of_rk HRKD.out) hBK (by rw [HMB.out]; omega)
            rw [HMB.out] at r1 hsm
            have HSMB := Lib.hid hsm
            obtain ⟨a0, a1, a2⟩ := rk_cells nd
            have la := heap_lt1 nd
            have HBE := Lib.hid HAD.out.st.bel
            have HWD := Lib.hid hwd
            clear hwd hbd hb10 hb9d nd hm hBK hsm HS
            go_wp2_with fail
            refine wp_region_tail wd.heap.size [([0, 1, 2, 3, 4, 5, 6, 7, 8, 9, 10, 11, 12, 13, 14], 15)] [16, 17, 18] [] (by kernel_rfl) (by kernel_rfl) (by kernel_rfl) (fun _ _ _ _ _ h => h) ?_
            rw [HWD.out]
            have u0 : ∀ z : LaterB wd.heap.size wd, z.val.cell? ⟨w5.heap.size, 1, none⟩ = some (.slice X1 mb x1) := fun z => (z.ext.cell (p := ⟨w5.heap.size, 1, none⟩) la).trans a1
            have u1 : ∀ z : LaterB wd.heap.size wd, z.val.cell? ⟨p, 1, none⟩ = some (.slice B1 mb e1) := fun z => (z.ext.cell (p := ⟨p, 1, none⟩) hpl).trans r1
            refine tail_cons (l := ?segZ) ?hsegZ ?_
            case hsegZ => simp only [pick, List.getElem?_toArray, List.getElem?_cons_succ, List.getElem?_cons_zero]; rfl
            repeat (go_big_quiet_step (fail))
            refine wpQuiet_nil ?_
            clear u0 u1
            refine tail_call2 (vs := #[.slice X1 mb x1, .slice B1 mb e1]) Tryz.call16 rfl rfl rfl (R := fun r w' => r = .int .i64 1 ∧ Below wd.heap.size wd w') (HSMB.out.mono ?_) ?_
            · rintro e w' ⟨rfl, hb⟩
              exact ⟨_, rfl, hb, rfl, hb⟩
            rintro r w11 _ ⟨rfl, hb11⟩
            refine ⟨w11.heap.size, hb11.size, ?_⟩
            have HF := Lib.hid (HBE.out.trans (hb11.mono HBE.out.size))
            clear hb11
            simp only [Act.put, List.setIfInBounds_toArray, List.set_cons_zero, List.set_cons_succ]
            refine tail_last (l := ?lastZ) (t := []) ?hlastZ rfl ?_
            case hlastZ => simp only [pick, List.getElem?_toArray, List.getElem?_cons_succ, List.getElem?_cons_zero]; rfl
            repeat (go_big_quiet_step (fail))
            refine wpQuiet_nil ?_
            go_wp2
            go_ret
            exact ⟨rfl, HF.out⟩
theorem iof_any (w : World) (cap : Int) (hcap : -9223372036854775808 ≤ cap ∧ cap ≤ 9223372036854775807) (A1 : Option Addr) (k1 : Nat) (l : List De) (hL : DeRd w w.heap.size A1 l) (A2 : Option Addr) (k2 : Nat) (b : List UInt8) (hrb : Rd w w.heap.size A2 b.length b) (hnc : b.length ≤ k2) (hk2 : k2 ≤ 9223372036854775807) (fl : Nat) (_hfl : fl < 256) :
    Calls Tryz.prog 3 #[.int .i64 cap, .slice A1 l.length k1, .slice A2 b.length k2, .int .u8 (fl : Int)] w fun e w' => e = .returned (.bool true) ∧ Below w.heap.size w w' := by
  by_cases hbig : 2000 < b.length ∨ 60 < l.length
  · exact iof_long w cap hcap A1 k1 l hL A2 k2 b hrb hnc hk2 fl _hfl hbig
  · cases hck : checkB b with
    | false => exact iof_no w cap hcap A1 k1 l hL A2 k2 b hrb hnc hk2 fl _hfl (by omega) (by omega) hck
    | true => exact iof_yes w cap hcap A1 k1 l hL A2 k2 b hrb hnc hk2 fl _hfl (by omega) (by omega) hck
end Go.Proofs.YtbemaoncakcnjaaGreat
