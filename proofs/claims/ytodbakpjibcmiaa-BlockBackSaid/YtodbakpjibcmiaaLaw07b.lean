/- The walk of BlockTells, one theorem a way. -/
import Derived.Test.YtodbakpjibcmiaaLaw07a
import Derived.Test.YtodbakpjibcmiaaSt7
import Derived.Test.YtodbakpjibcmiaaTail
import Derived.Test.YtodbakpjibcmiaaCheckM
namespace Go.Proofs.Ytodbakpjibcmiaa
open Go.RowKit

theorem conv7 {w : World} {B n : Nat} {A : Option Addr} {bs : List UInt8} (h : Rd w B A n bs) (c : Nat) (x : LaterB B w) : (convert 23 9 (.slice A n c)).run Try.prog x.val = .ok (.string (strB bs)) x.val := conv_rd (h.below x.ext)

set_option maxRecDepth 100000 in
set_option maxHeartbeats 4000000 in
theorem bt_1111 (HG : GetC) (HA : AheadC) (HS : SetC) (HW : WalkC) (w : World) (n : Nat) (hn : n < 18446744073709551616) (Ab : Option Addr) (k : Nat) (bs : List UInt8) (hr : Rd w w.heap.size Ab bs.length bs) (hbk : bs.length ≤ k) (hA0 : Ab = none → k = 0) (hl : bs.length ≤ 16384) (o : Int) (ho : -9223372036854775808 ≤ o ∧ o ≤ 9223372036854775807)
    (xo xs : Int) (xu : Bool) (hxo : -9223372036854775808 ≤ xo ∧ xo ≤ 9223372036854775807) (hxs : -9223372036854775808 ≤ xs ∧ xs ≤ 9223372036854775807)
    (x y : Option Bk) (l : Option (List Bk)) (hx : getB bs o = x) (hy : aheadB bs o = y) (hw : walkB bs = l) (hxb : x.isSome = true) (hyb : y.isSome = true) (hwb : l.isSome = true) (out : List UInt8) (hz : setB bs xo xs xu = some out) :
    Calls Try.prog 3 #[.int .u64 (n : Int), .slice Ab bs.length k, .int .i64 o, .agg #[.int .i64 xo, .int .i64 xs, .bool xu]] w fun e w' => e = .returned (.bool true) ∧ Below w.heap.size w w' := by
  obtain ⟨ln, hln⟩ : ∃ ln, bs.length = ln := ⟨_, rfl⟩
  obtain ⟨m, hm⟩ : ∃ m, (l.getD []).length = m := ⟨_, rfl⟩
  obtain ⟨xa, xb, xc, hxv⟩ := bkV_is x
  obtain ⟨ya, yb, yc, hyv⟩ := bkV_is y
  have hm1 : m ≤ 1000000 := by
    cases l with
    | none => simp at hm; omega
    | some l => have := walkB_len hw; simp at hm; omega
  rw [hln] at hr hbk hl ⊢
  obtain ⟨wx, hwx⟩ : ∃ wx, w.alloc (.cells #[.int .i64 xo, .int .i64 xs, .bool xu] 25) = wx := ⟨_, rfl⟩
  have hbx : Below w.heap.size w wx := by rw [← hwx]; exact (Below.refl _ _).alloc (Nat.le_refl _) _
  have hnx : wx.heap[w.heap.size]? = some (.cells #[.int .i64 xo, .int .i64 xs, .bool xu] 25 (0, 0)) := by rw [← hwx]; exact heap_alloc_new w _
  have s0 : decide ((16384 : Int) < (ln : Int)) = false := decide_eq_false (by omega)
  obtain ⟨base, hbase⟩ : ∃ base, n % 288230376151711744 * 16 = base := ⟨_, rfl⟩
  have hb1 : base % 16 = 0 := by omega
  have hb2 : base ≤ 4611686018427387904 := by omega
  have HBase := Lib.hid (fun W => lawbase_any W n hn)
  rw [hbase] at HBase
  have HR := Lib.hid ((hr.below hbx).more hbx.size)
  have HBX := Lib.hid hbx
  have HNX := Lib.hid hnx
  have HWX := Lib.hid hwx
  have HLN := Lib.hid hln
  have HB1 := Lib.hid (And.intro hb1 hb2)
  have HX := Lib.hid hx
  have HY := Lib.hid hy
  have HL := Lib.hid hw
  have HZ := Lib.hid hz
  have HM := Lib.hid (And.intro hm hm1)
  have HXV := Lib.hid (And.intro hxv hxb)
  have HYV := Lib.hid (And.intro hyv hyb)
  have HWB := Lib.hid hwb
  have HLL := Lib.hid (And.intro hl hbk)
  have HA0 := Lib.hid hA0
  have HG := Lib.hid HG
  have HA := Lib.hid HA
  have HS := Lib.hid HS
  have HW := Lib.hid HW
  have HUP := Lib.hid (up7_any HG.out HA.out HS.out HW.out)
  clear hx hy hw hz hm hm1 hxv hxb hyv hyb hwb hr hbx hnx hwx hln hbase hb1 hb2 hl hbk hA0 hn
  go_enter Try.func3, Try.ntmps3
  go_wp2_with fail
  rw [HWX.out]
  refine (HUP.out _).mono ?_
  rintro e w1 ⟨rfl, hb⟩
  have HR1 := Lib.hid ((HR.out.below hb).more hb.size)
  have HB1' := Lib.hid (HBX.out.trans (hb.mono HBX.out.size))
  have HN1 := Lib.hid ((hb.block _ (heap_lt HNX.out)).trans HNX.out)
  have HLT := Lib.hid (Nat.lt_of_lt_of_le (heap_lt HNX.out) hb.size)
  clear HUP HR HBX HNX HWX hb
  go_wp2_with fail
  refine (HBase.out w1).mono ?_
  rintro e w2 ⟨rfl, rfl⟩
  go_wp2_with fail
  have hma := arena_any w1 base 16384 Ab k bs (by rw [HLN.out]; exact HR1.out) HB1.out.1 HB1.out.2 (by omega) (by omega) (by rw [HLN.out]; exact HLL.out.1)
  rw [HLN.out] at hma
  refine hma.mono ?_
  clear hma
  rintro e w2 hmade
  obtain ⟨g, A, c, rfl, hst⟩ := St.made hmade
  have HST := Lib.hid hst
  clear hmade hst HBase
  go_wp2_with fail
  refine (HG.out w2 g base 16384 c A bs o _ HST.out.ar HB1.out.2 (by rw [HLN.out]; exact HLL.out.1) ho HX.out).mono ?_
  rintro e w3 ⟨rfl, hb⟩
  have HST3 := Lib.hid (HST.out.below hb)
  clear hb HST
  rw [HXV.out.1, HXV.out.2]
  dsimp only [errV]
  go_wp2_with fail
  have hst4 := HST3.out.alloc (.cells #[.int .i64 xa, .int .i64 xb, .bool xc] 25)
  have hca := rgetB_any _ Ab k w1.heap.size bs (by rw [HLN.out]; exact HR1.out.below hst4.bel) (by rw [HLN.out]; exact HLL.out.2) (by rw [HLN.out]; have := HLL.out.1; omega) o ho _ HX.out
  rw [HLN.out] at hca
  refine hca.mono ?_
  clear hca
  rintro e w4 ⟨rfl, hb⟩
  have HST4 := Lib.hid (hst4.below hb)
  clear hb hst4 HST3
  generalize w3.heap.size = g3 at HST4 ⊢
  rw [HXV.out.1, HXV.out.2]
  go_wp2_with fail
  have hst5 := HST4.out.alloc (.cells #[.int .i64 xa, .int .i64 xb, .bool xc] 25)
  refine (HA.out _ g base 16384 c A bs o _ hst5.ar HB1.out.2 (by rw [HLN.out]; exact HLL.out.1) ho HY.out).mono ?_
  rintro e w5 ⟨rfl, hb⟩
  have HST5 := Lib.hid (hst5.below hb)
  clear hb hst5 HST4
  generalize w4.heap.size = g4 at HST5 ⊢
  rw [HYV.out.1, HYV.out.2]
  dsimp only [errV]
  go_wp2_with fail
  have hst6 := HST5.out.alloc (.cells #[.int .i64 ya, .int .i64 yb, .bool yc] 25)
  have hca := raheadB_any _ Ab k w1.heap.size bs (by rw [HLN.out]; exact HR1.out.below hst6.bel) (by rw [HLN.out]; exact HLL.out.2) (by rw [HLN.out]; have := HLL.out.1; omega) o ho _ HY.out
  rw [HLN.out] at hca
  refine hca.mono ?_
  clear hca
  rintro e w6 ⟨rfl, hb⟩
  have HST6 := Lib.hid (hst6.below hb)
  clear hb hst6 HST5
  generalize w5.heap.size = g5 at HST6 ⊢
  rw [HYV.out.1, HYV.out.2]
  go_wp2_with fail
  have hst7 := HST6.out.alloc (.cells #[.int .i64 ya, .int .i64 yb, .bool yc] 25)
  refine (HW.out _ g base 16384 c A bs _ hst7.ar HB1.out.2 (by rw [HLN.out]; exact HLL.out.1) HL.out).mono ?_
  rintro e w7 ⟨A7, c7, rfl, hown, hb⟩
  rw [HM.out.1] at hown
  have hbk7 := own_bks hown HM.out.1.symm
  have HST7 := Lib.hid (hst7.below hb)
  have HBK7 := Lib.hid hbk7
  clear hb hst7 HST6 hown hbk7
  generalize w6.heap.size = g6 at HST7 ⊢
  rw [HM.out.1, HWB.out]
  dsimp only [errV]
  go_wp2_with fail
  have hca := rwalkB_any w7 Ab k w1.heap.size bs (by rw [HLN.out]; exact HR1.out.below HST7.out.bel) HST7.out.size (by rw [HLN.out]; exact HLL.out.2) (by rw [HLN.out]; have := HLL.out.1; omega) _ HL.out
  rw [HLN.out] at hca
  refine hca.mono ?_
  clear hca
  rintro e w8 ⟨A8, c8, rfl, hown, hb⟩
  rw [HM.out.1] at hown
  have hbk8 := own_bks hown HM.out.1.symm
  have hst8 := HST7.out.below hb
  have hsame := blocks_same w8 A7 A8 c7 c8 (l.getD []) ((HBK7.out.below hb).more hb.size) hbk8 (by rw [HM.out.1]; exact HM.out.2)
  rw [HM.out.1] at hsame
  obtain ⟨p0, p1, p2⟩ := up7_ (hst8.obj (p := g3) (.tail _ (.tail _ (.tail _ (.head _)))))
  obtain ⟨q0, q1, q2⟩ := up7_ (hst8.obj (p := g4) (.tail _ (.tail _ (.head _))))
  obtain ⟨r0, r1, r2⟩ := up7_ (hst8.obj (p := g5) (.tail _ (.head _)))
  obtain ⟨t0, t1, t2⟩ := up7_ (hst8.obj (p := g6) (.head _))
  have HST8 := Lib.hid hst8
  have HSM := Lib.hid hsame
  clear hb hst8 hsame hown hbk8 HST7 HBK7
  rw [HM.out.1, HWB.out]
  go_wp2_with fail
  refine HSM.out.mono ?_
  rintro e w9 ⟨rfl, hb⟩
  have HST9 := Lib.hid (HST8.out.below hb)
  clear hb HST8 HSM p0 p1 p2 q0 q1 q2 r0 r1 r2 t0 t1 t2
  obtain ⟨b0, b1, b2⟩ := up7_ ((HST9.out.bel.block _ HLT.out).trans HN1.out)
  have HSet := Lib.hid (HS.out w9 g base 16384 c A bs xo xs xu _ HST9.out.ar HB1.out.2 (by rw [HLN.out]; exact HLL.out.1) hxo hxs HZ.out)
  go_wp2_with fail
  refine HSet.out.mono ?_
  rintro e w11 ⟨rfl, hbe⟩
  obtain ⟨A9, c9, hst⟩ := HST9.out.became hbe
  have HST11 := Lib.hid hst
  clear HSet hbe hst HST9 b0 b1 b2
  obtain ⟨b0, b1, b2⟩ := up7_ ((HST11.out.bel.block _ HLT.out).trans HN1.out)
  dsimp only [errV]
  go_wp2_with fail
  have hca := rsetB_any w11 Ab k bs (by rw [HLN.out]; exact HST11.out.rd HR1.out) (by rw [HLN.out]; exact HLL.out.2) HA0.out (by rw [HLN.out]; have := HLL.out.1; omega) xo xs xu hxo hxs _ HZ.out
  rw [HLN.out] at hca
  refine hca.mono ?_
  clear hca
  rintro e w12 ⟨A12, c12, rfl, hr12, _, _, hb⟩
  obtain ⟨wd, hwd⟩ : ∃ wd, w12.drew = wd := ⟨_, rfl⟩
  have bd : Below w12.heap.size w12 wd := by rw [← hwd]; exact (Below.refl _ _).drew
  have hst12 := (HST11.out.below hb).below bd
  have hby := bytes_any hst12.ar (by rw [setB_length HZ.out, HLN.out]; have := HLL.out.1; omega) HB1.out.2
  have HBY := Lib.hid hby
  have HR12 := Lib.hid ((hr12.below bd).more bd.size)
  have HWD := Lib.hid hwd
  have HK12 := Lib.hid (HB1'.out.trans (hst12.bel.mono HB1'.out.size))
  clear hb hst12 hby hr12 HST11 b0 b1 b2 bd hwd
  dsimp only [Option.getD, Option.isSome] at HR12 ⊢
  go_wp2_with fail
  refine wp_region_tail wd.heap.size [([0, 1, 2, 5, 6], 3)] [4, 7, 8, 9, 10, 11, 12, 13, 14, 15, 16, 17, 18, 19] [20, 21, 22, 23, 24, 25] (by kernel_rfl) (by kernel_rfl) (by kernel_rfl) (fun _ _ _ _ _ h => h) ?_
  rw [HWD.out]
  have qb := conv7 HR12.out
  refine tail_cons (l := ?seg1) ?hseg1 ?_
  case hseg1 => simp only [pick, List.getElem?_toArray, List.getElem?_cons_succ, List.getElem?_cons_zero]; rfl
  repeat (go_big_quiet_step (fail))
  refine wpQuiet_nil ?_
  clear qb
  refine tail_call2 (vs := #[.pointer (some ⟨g, 0, none⟩)]) Try.call18 rfl rfl rfl (R := fun r w' => ∃ A c, r = .slice A out.length c ∧ Rd w' w'.heap.size A out.length out ∧ Below wd.heap.size wd w') (HBY.out.mono ?_) ?_
  · rintro e w' ⟨A', c', rfl, ho, hb⟩
    exact ⟨_, rfl, hb, A', c', rfl, (own_facts ho).1, hb⟩
  rintro r w13 _ ⟨A13, c13, rfl, r13, b13⟩
  refine ⟨w13.heap.size, b13.size, ?_⟩
  have qa := conv7 r13
  refine tail_last (l := ?la3) (t := ?tl3) ?hla3 ?htl3 ?_
  case hla3 => simp only [pick, List.getElem?_toArray, List.getElem?_cons_succ, List.getElem?_cons_zero]; rfl
  case htl3 => simp only [pick, List.getElem?_toArray, List.getElem?_cons_succ, List.getElem?_cons_zero]; rfl
  simp only [Act.put, List.setIfInBounds_toArray, List.set_cons_zero, List.set_cons_succ]
  repeat (go_big_quiet_step (fail))
  refine wpQuiet_nil ?_
  have HK13 := Lib.hid (HK12.out.trans (b13.mono HK12.out.size))
  clear qa r13 b13 HR12 HBY HK12
  go_wp2
  go_ret
  exact ⟨rfl, HK13.out⟩


set_option maxRecDepth 100000 in
set_option maxHeartbeats 4000000 in
theorem bt_1110 (HG : GetC) (HA : AheadC) (HS : SetC) (HW : WalkC) (w : World) (n : Nat) (hn : n < 18446744073709551616) (Ab : Option Addr) (k : Nat) (bs : List UInt8) (hr : Rd w w.heap.size Ab bs.length bs) (hbk : bs.length ≤ k) (hA0 : Ab = none → k = 0) (hl : bs.length ≤ 16384) (o : Int) (ho : -9223372036854775808 ≤ o ∧ o ≤ 9223372036854775807)
    (xo xs : Int) (xu : Bool) (hxo : -9223372036854775808 ≤ xo ∧ xo ≤ 9223372036854775807) (hxs : -9223372036854775808 ≤ xs ∧ xs ≤ 9223372036854775807)
    (x y : Option Bk) (l : Option (List Bk)) (hx : getB bs o = x) (hy : aheadB bs o = y) (hw : walkB bs = l) (hxb : x.isSome = true) (hyb : y.isSome = true) (hwb : l.isSome = true) (hz : setB bs xo xs xu = none) :
    Calls Try.prog 3 #[.int .u64 (n : Int), .slice Ab bs.length k, .int .i64 o, .agg #[.int .i64 xo, .int .i64 xs, .bool xu]] w fun e w' => e = .returned (.bool true) ∧ Below w.heap.size w w' := by
  obtain ⟨ln, hln⟩ : ∃ ln, bs.length = ln := ⟨_, rfl⟩
  obtain ⟨m, hm⟩ : ∃ m, (l.getD []).length = m := ⟨_, rfl⟩
  obtain ⟨xa, xb, xc, hxv⟩ := bkV_is x
  obtain ⟨ya, yb, yc, hyv⟩ := bkV_is y
  have hm1 : m ≤ 1000000 := by
    cases l with
    | none => simp at hm; omega
    | some l => have := walkB_len hw; simp at hm; omega
  rw [hln] at hr hbk hl ⊢
  obtain ⟨wx, hwx⟩ : ∃ wx, w.alloc (.cells #[.int .i64 xo, .int .i64 xs, .bool xu] 25) = wx := ⟨_, rfl⟩
  have hbx : Below w.heap.size w wx := by rw [← hwx]; exact (Below.refl _ _).alloc (Nat.le_refl _) _
  have hnx : wx.heap[w.heap.size]? = some (.cells #[.int .i64 xo, .int .i64 xs, .bool xu] 25 (0, 0)) := by rw [← hwx]; exact heap_alloc_new w _
  have s0 : decide ((16384 : Int) < (ln : Int)) = false := decide_eq_false (by omega)
  obtain ⟨base, hbase⟩ : ∃ base, n % 288230376151711744 * 16 = base := ⟨_, rfl⟩
  have hb1 : base % 16 = 0 := by omega
  have hb2 : base ≤ 4611686018427387904 := by omega
  have HBase := Lib.hid (fun W => lawbase_any W n hn)
  rw [hbase] at HBase
  have HR := Lib.hid ((hr.below hbx).more hbx.size)
  have HBX := Lib.hid hbx
  have HNX := Lib.hid hnx
  have HWX := Lib.hid hwx
  have HLN := Lib.hid hln
  have HB1 := Lib.hid (And.intro hb1 hb2)
  have HX := Lib.hid hx
  have HY := Lib.hid hy
  have HL := Lib.hid hw
  have HZ := Lib.hid hz
  have HM := Lib.hid (And.intro hm hm1)
  have HXV := Lib.hid (And.intro hxv hxb)
  have HYV := Lib.hid (And.intro hyv hyb)
  have HWB := Lib.hid hwb
  have HLL := Lib.hid (And.intro hl hbk)
  have HA0 := Lib.hid hA0
  have HG := Lib.hid HG
  have HA := Lib.hid HA
  have HS := Lib.hid HS
  have HW := Lib.hid HW
  have HUP := Lib.hid (up7_any HG.out HA.out HS.out HW.out)
  clear hx hy hw hz hm hm1 hxv hxb hyv hyb hwb hr hbx hnx hwx hln hbase hb1 hb2 hl hbk hA0 hn
  go_enter Try.func3, Try.ntmps3
  go_wp2_with fail
  rw [HWX.out]
  refine (HUP.out _).mono ?_
  rintro e w1 ⟨rfl, hb⟩
  have HR1 := Lib.hid ((HR.out.below hb).more hb.size)
  have HB1' := Lib.hid (HBX.out.trans (hb.mono HBX.out.size))
  have HN1 := Lib.hid ((hb.block _ (heap_lt HNX.out)).trans HNX.out)
  have HLT := Lib.hid (Nat.lt_of_lt_of_le (heap_lt HNX.out) hb.size)
  clear HUP HR HBX HNX HWX hb
  go_wp2_with fail
  refine (HBase.out w1).mono ?_
  rintro e w2 ⟨rfl, rfl⟩
  go_wp2_with fail
  have hma := arena_any w1 base 16384 Ab k bs (by rw [HLN.out]; exact HR1.out) HB1.out.1 HB1.out.2 (by omega) (by omega) (by rw [HLN.out]; exact HLL.out.1)
  rw [HLN.out] at hma
  refine hma.mono ?_
  clear hma
  rintro e w2 hmade
  obtain ⟨g, A, c, rfl, hst⟩ := St.made hmade
  have HST := Lib.hid hst
  clear hmade hst HBase
  go_wp2_with fail
  refine (HG.out w2 g base 16384 c A bs o _ HST.out.ar HB1.out.2 (by rw [HLN.out]; exact HLL.out.1) ho HX.out).mono ?_
  rintro e w3 ⟨rfl, hb⟩
  have HST3 := Lib.hid (HST.out.below hb)
  clear hb HST
  rw [HXV.out.1, HXV.out.2]
  dsimp only [errV]
  go_wp2_with fail
  have hst4 := HST3.out.alloc (.cells #[.int .i64 xa, .int .i64 xb, .bool xc] 25)
  have hca := rgetB_any _ Ab k w1.heap.size bs (by rw [HLN.out]; exact HR1.out.below hst4.bel) (by rw [HLN.out]; exact HLL.out.2) (by rw [HLN.out]; have := HLL.out.1; omega) o ho _ HX.out
  rw [HLN.out] at hca
  refine hca.mono ?_
  clear hca
  rintro e w4 ⟨rfl, hb⟩
  have HST4 := Lib.hid (hst4.below hb)
  clear hb hst4 HST3
  generalize w3.heap.size = g3 at HST4 ⊢
  rw [HXV.out.1, HXV.out.2]
  go_wp2_with fail
  have hst5 := HST4.out.alloc (.cells #[.int .i64 xa, .int .i64 xb, .bool xc] 25)
  refine (HA.out _ g base 16384 c A bs o _ hst5.ar HB1.out.2 (by rw [HLN.out]; exact HLL.out.1) ho HY.out).mono ?_
  rintro e w5 ⟨rfl, hb⟩
  have HST5 := Lib.hid (hst5.below hb)
  clear hb hst5 HST4
  generalize w4.heap.size = g4 at HST5 ⊢
  rw [HYV.out.1, HYV.out.2]
  dsimp only [errV]
  go_wp2_with fail
  have hst6 := HST5.out.alloc (.cells #[.int .i64 ya, .int .i64 yb, .bool yc] 25)
  have hca := raheadB_any _ Ab k w1.heap.size bs (by rw [HLN.out]; exact HR1.out.below hst6.bel) (by rw [HLN.out]; exact HLL.out.2) (by rw [HLN.out]; have := HLL.out.1; omega) o ho _ HY.out
  rw [HLN.out] at hca
  refine hca.mono ?_
  clear hca
  rintro e w6 ⟨rfl, hb⟩
  have HST6 := Lib.hid (hst6.below hb)
  clear hb hst6 HST5
  generalize w5.heap.size = g5 at HST6 ⊢
  rw [HYV.out.1, HYV.out.2]
  go_wp2_with fail
  have hst7 := HST6.out.alloc (.cells #[.int .i64 ya, .int .i64 yb, .bool yc] 25)
  refine (HW.out _ g base 16384 c A bs _ hst7.ar HB1.out.2 (by rw [HLN.out]; exact HLL.out.1) HL.out).mono ?_
  rintro e w7 ⟨A7, c7, rfl, hown, hb⟩
  rw [HM.out.1] at hown
  have hbk7 := own_bks hown HM.out.1.symm
  have HST7 := Lib.hid (hst7.below hb)
  have HBK7 := Lib.hid hbk7
  clear hb hst7 HST6 hown hbk7
  generalize w6.heap.size = g6 at HST7 ⊢
  rw [HM.out.1, HWB.out]
  dsimp only [errV]
  go_wp2_with fail
  have hca := rwalkB_any w7 Ab k w1.heap.size bs (by rw [HLN.out]; exact HR1.out.below HST7.out.bel) HST7.out.size (by rw [HLN.out]; exact HLL.out.2) (by rw [HLN.out]; have := HLL.out.1; omega) _ HL.out
  rw [HLN.out] at hca
  refine hca.mono ?_
  clear hca
  rintro e w8 ⟨A8, c8, rfl, hown, hb⟩
  rw [HM.out.1] at hown
  have hbk8 := own_bks hown HM.out.1.symm
  have hst8 := HST7.out.below hb
  have hsame := blocks_same w8 A7 A8 c7 c8 (l.getD []) ((HBK7.out.below hb).more hb.size) hbk8 (by rw [HM.out.1]; exact HM.out.2)
  rw [HM.out.1] at hsame
  obtain ⟨p0, p1, p2⟩ := up7_ (hst8.obj (p := g3) (.tail _ (.tail _ (.tail _ (.head _)))))
  obtain ⟨q0, q1, q2⟩ := up7_ (hst8.obj (p := g4) (.tail _ (.tail _ (.head _))))
  obtain ⟨r0, r1, r2⟩ := up7_ (hst8.obj (p := g5) (.tail _ (.head _)))
  obtain ⟨t0, t1, t2⟩ := up7_ (hst8.obj (p := g6) (.head _))
  have HST8 := Lib.hid hst8
  have HSM := Lib.hid hsame
  clear hb hst8 hsame hown hbk8 HST7 HBK7
  rw [HM.out.1, HWB.out]
  go_wp2_with fail
  refine HSM.out.mono ?_
  rintro e w9 ⟨rfl, hb⟩
  have HST9 := Lib.hid (HST8.out.below hb)
  clear hb HST8 HSM p0 p1 p2 q0 q1 q2 r0 r1 r2 t0 t1 t2
  obtain ⟨b0, b1, b2⟩ := up7_ ((HST9.out.bel.block _ HLT.out).trans HN1.out)
  have HSet := Lib.hid (HS.out w9 g base 16384 c A bs xo xs xu _ HST9.out.ar HB1.out.2 (by rw [HLN.out]; exact HLL.out.1) hxo hxs HZ.out)
  go_wp2_with fail
  refine HSet.out.mono ?_
  rintro e w11 ⟨rfl, hb⟩
  have HST11 := Lib.hid (HST9.out.below hb)
  clear HSet hb HST9 b0 b1 b2
  obtain ⟨b0, b1, b2⟩ := up7_ ((HST11.out.bel.block _ HLT.out).trans HN1.out)
  dsimp only [errV]
  go_wp2_with fail
  have hca := rsetB_any w11 Ab k bs (by rw [HLN.out]; exact HST11.out.rd HR1.out) (by rw [HLN.out]; exact HLL.out.2) HA0.out (by rw [HLN.out]; have := HLL.out.1; omega) xo xs xu hxo hxs _ HZ.out
  rw [HLN.out] at hca
  refine hca.mono ?_
  clear hca
  rintro e w12 ⟨A12, c12, rfl, hr12, _, _, hb⟩
  obtain ⟨wd, hwd⟩ : ∃ wd, w12.drew = wd := ⟨_, rfl⟩
  have bd : Below w12.heap.size w12 wd := by rw [← hwd]; exact (Below.refl _ _).drew
  have hst12 := (HST11.out.below hb).below bd
  have hby := bytes_any hst12.ar (by rw [HLN.out]; have := HLL.out.1; omega) HB1.out.2
  have HBY := Lib.hid hby
  have HR12 := Lib.hid ((hr12.below bd).more bd.size)
  have HWD := Lib.hid hwd
  have HK12 := Lib.hid (HB1'.out.trans (hst12.bel.mono HB1'.out.size))
  clear hb hst12 hby hr12 HST11 b0 b1 b2 bd hwd
  dsimp only [Option.getD, Option.isSome] at HR12 ⊢
  go_wp2_with fail
  refine wp_region_tail wd.heap.size [([0, 1, 2, 5, 6], 3)] [4, 7, 8, 9, 10, 11, 12, 13, 14, 15, 16, 17, 18, 19] [20, 21, 22, 23, 24, 25] (by kernel_rfl) (by kernel_rfl) (by kernel_rfl) (fun _ _ _ _ _ h => h) ?_
  rw [HWD.out]
  have qb := conv7 HR12.out
  refine tail_cons (l := ?seg1) ?hseg1 ?_
  case hseg1 => simp only [pick, List.getElem?_toArray, List.getElem?_cons_succ, List.getElem?_cons_zero]; rfl
  repeat (go_big_quiet_step (fail))
  refine wpQuiet_nil ?_
  clear qb
  refine tail_call2 (vs := #[.pointer (some ⟨g, 0, none⟩)]) Try.call18 rfl rfl rfl (R := fun r w' => ∃ A c, r = .slice A bs.length c ∧ Rd w' w'.heap.size A bs.length bs ∧ Below wd.heap.size wd w') (HBY.out.mono ?_) ?_
  · rintro e w' ⟨A', c', rfl, ho, hb⟩
    exact ⟨_, rfl, hb, A', c', rfl, (own_facts ho).1, hb⟩
  rintro r w13 _ ⟨A13, c13, rfl, r13, b13⟩
  refine ⟨w13.heap.size, b13.size, ?_⟩
  have qa := conv7 r13
  refine tail_last (l := ?la3) (t := ?tl3) ?hla3 ?htl3 ?_
  case hla3 => simp only [pick, List.getElem?_toArray, List.getElem?_cons_succ, List.getElem?_cons_zero]; rfl
  case htl3 => simp only [pick, List.getElem?_toArray, List.getElem?_cons_succ, List.getElem?_cons_zero]; rfl
  simp only [Act.put, List.setIfInBounds_toArray, List.set_cons_zero, List.set_cons_succ]
  repeat (go_big_quiet_step (fail))
  refine wpQuiet_nil ?_
  have HK13 := Lib.hid (HK12.out.trans (b13.mono HK12.out.size))
  clear qa r13 b13 HR12 HBY HK12
  go_wp2_with fail
  refine (code_err _ 1 (by omega) (by omega)).mono ?_
  rintro e w14 ⟨rfl, rfl⟩
  go_wp2
  go_ret
  exact ⟨rfl, HK13.out⟩


set_option maxRecDepth 100000 in
set_option maxHeartbeats 4000000 in
theorem bt_1101 (HG : GetC) (HA : AheadC) (HS : SetC) (HW : WalkC) (w : World) (n : Nat) (hn : n < 18446744073709551616) (Ab : Option Addr) (k : Nat) (bs : List UInt8) (hr : Rd w w.heap.size Ab bs.length bs) (hbk : bs.length ≤ k) (hA0 : Ab = none → k = 0) (hl : bs.length ≤ 16384) (o : Int) (ho : -9223372036854775808 ≤ o ∧ o ≤ 9223372036854775807)
    (xo xs : Int) (xu : Bool) (hxo : -9223372036854775808 ≤ xo ∧ xo ≤ 9223372036854775807) (hxs : -9223372036854775808 ≤ xs ∧ xs ≤ 9223372036854775807)
    (x y : Option Bk) (l : Option (List Bk)) (hx : getB bs o = x) (hy : aheadB bs o = y) (hw : walkB bs = l) (hxb : x.isSome = true) (hyb : y.isSome = true) (hwb : l.isSome = false) (out : List UInt8) (hz : setB bs xo xs xu = some out) :
    Calls Try.prog 3 #[.int .u64 (n : Int), .slice Ab bs.length k, .int .i64 o, .agg #[.int .i64 xo, .int .i64 xs, .bool xu]] w fun e w' => e = .returned (.bool true) ∧ Below w.heap.size w w' := by
  obtain ⟨ln, hln⟩ : ∃ ln, bs.length = ln := ⟨_, rfl⟩
  obtain ⟨m, hm⟩ : ∃ m, (l.getD []).length = m := ⟨_, rfl⟩
  obtain ⟨xa, xb, xc, hxv⟩ := bkV_is x
  obtain ⟨ya, yb, yc, hyv⟩ := bkV_is y
  have hm1 : m ≤ 1000000 := by
    cases l with
    | none => simp at hm; omega
    | some l => have := walkB_len hw; simp at hm; omega
  rw [hln] at hr hbk hl ⊢
  obtain ⟨wx, hwx⟩ : ∃ wx, w.alloc (.cells #[.int .i64 xo, .int .i64 xs, .bool xu] 25) = wx := ⟨_, rfl⟩
  have hbx : Below w.heap.size w wx := by rw [← hwx]; exact (Below.refl _ _).alloc (Nat.le_refl _) _
  have hnx : wx.heap[w.heap.size]? = some (.cells #[.int .i64 xo, .int .i64 xs, .bool xu] 25 (0, 0)) := by rw [← hwx]; exact heap_alloc_new w _
  have s0 : decide ((16384 : Int) < (ln : Int)) = false := decide_eq_false (by omega)
  obtain ⟨base, hbase⟩ : ∃ base, n % 288230376151711744 * 16 = base := ⟨_, rfl⟩
  have hb1 : base % 16 = 0 := by omega
  have hb2 : base ≤ 4611686018427387904 := by omega
  have HBase := Lib.hid (fun W => lawbase_any W n hn)
  rw [hbase] at HBase
  have HR := Lib.hid ((hr.below hbx).more hbx.size)
  have HBX := Lib.hid hbx
  have HNX := Lib.hid hnx
  have HWX := Lib.hid hwx
  have HLN := Lib.hid hln
  have HB1 := Lib.hid (And.intro hb1 hb2)
  have HX := Lib.hid hx
  have HY := Lib.hid hy
  have HL := Lib.hid hw
  have HZ := Lib.hid hz
  have HM := Lib.hid (And.intro hm hm1)
  have HXV := Lib.hid (And.intro hxv hxb)
  have HYV := Lib.hid (And.intro hyv hyb)
  have HWB := Lib.hid hwb
  have HLL := Lib.hid (And.intro hl hbk)
  have HA0 := Lib.hid hA0
  have HG := Lib.hid HG
  have HA := Lib.hid HA
  have HS := Lib.hid HS
  have HW := Lib.hid HW
  have HUP := Lib.hid (up7_any HG.out HA.out HS.out HW.out)
  clear hx hy hw hz hm hm1 hxv hxb hyv hyb hwb hr hbx hnx hwx hln hbase hb1 hb2 hl hbk hA0 hn
  go_enter Try.func3, Try.ntmps3
  go_wp2_with fail
  rw [HWX.out]
  refine (HUP.out _).mono ?_
  rintro e w1 ⟨rfl, hb⟩
  have HR1 := Lib.hid ((HR.out.below hb).more hb.size)
  have HB1' := Lib.hid (HBX.out.trans (hb.mono HBX.out.size))
  have HN1 := Lib.hid ((hb.block _ (heap_lt HNX.out)).trans HNX.out)
  have HLT := Lib.hid (Nat.lt_of_lt_of_le (heap_lt HNX.out) hb.size)
  clear HUP HR HBX HNX HWX hb
  go_wp2_with fail
  refine (HBase.out w1).mono ?_
  rintro e w2 ⟨rfl, rfl⟩
  go_wp2_with fail
  have hma := arena_any w1 base 16384 Ab k bs (by rw [HLN.out]; exact HR1.out) HB1.out.1 HB1.out.2 (by omega) (by omega) (by rw [HLN.out]; exact HLL.out.1)
  rw [HLN.out] at hma
  refine hma.mono ?_
  clear hma
  rintro e w2 hmade
  obtain ⟨g, A, c, rfl, hst⟩ := St.made hmade
  have HST := Lib.hid hst
  clear hmade hst HBase
  go_wp2_with fail
  refine (HG.out w2 g base 16384 c A bs o _ HST.out.ar HB1.out.2 (by rw [HLN.out]; exact HLL.out.1) ho HX.out).mono ?_
  rintro e w3 ⟨rfl, hb⟩
  have HST3 := Lib.hid (HST.out.below hb)
  clear hb HST
  rw [HXV.out.1, HXV.out.2]
  dsimp only [errV]
  go_wp2_with fail
  have hst4 := HST3.out.alloc (.cells #[.int .i64 xa, .int .i64 xb, .bool xc] 25)
  have hca := rgetB_any _ Ab k w1.heap.size bs (by rw [HLN.out]; exact HR1.out.below hst4.bel) (by rw [HLN.out]; exact HLL.out.2) (by rw [HLN.out]; have := HLL.out.1; omega) o ho _ HX.out
  rw [HLN.out] at hca
  refine hca.mono ?_
  clear hca
  rintro e w4 ⟨rfl, hb⟩
  have HST4 := Lib.hid (hst4.below hb)
  clear hb hst4 HST3
  generalize w3.heap.size = g3 at HST4 ⊢
  rw [HXV.out.1, HXV.out.2]
  go_wp2_with fail
  have hst5 := HST4.out.alloc (.cells #[.int .i64 xa, .int .i64 xb, .bool xc] 25)
  refine (HA.out _ g base 16384 c A bs o _ hst5.ar HB1.out.2 (by rw [HLN.out]; exact HLL.out.1) ho HY.out).mono ?_
  rintro e w5 ⟨rfl, hb⟩
  have HST5 := Lib.hid (hst5.below hb)
  clear hb hst5 HST4
  generalize w4.heap.size = g4 at HST5 ⊢
  rw [HYV.out.1, HYV.out.2]
  dsimp only [errV]
  go_wp2_with fail
  have hst6 := HST5.out.alloc (.cells #[.int .i64 ya, .int .i64 yb, .bool yc] 25)
  have hca := raheadB_any _ Ab k w1.heap.size bs (by rw [HLN.out]; exact HR1.out.below hst6.bel) (by rw [HLN.out]; exact HLL.out.2) (by rw [HLN.out]; have := HLL.out.1; omega) o ho _ HY.out
  rw [HLN.out] at hca
  refine hca.mono ?_
  clear hca
  rintro e w6 ⟨rfl, hb⟩
  have HST6 := Lib.hid (hst6.below hb)
  clear hb hst6 HST5
  generalize w5.heap.size = g5 at HST6 ⊢
  rw [HYV.out.1, HYV.out.2]
  go_wp2_with fail
  have hst7 := HST6.out.alloc (.cells #[.int .i64 ya, .int .i64 yb, .bool yc] 25)
  refine (HW.out _ g base 16384 c A bs _ hst7.ar HB1.out.2 (by rw [HLN.out]; exact HLL.out.1) HL.out).mono ?_
  rintro e w7 ⟨A7, c7, rfl, hown, hb⟩
  rw [HM.out.1] at hown
  have hbk7 := own_bks hown HM.out.1.symm
  have HST7 := Lib.hid (hst7.below hb)
  have HBK7 := Lib.hid hbk7
  clear hb hst7 HST6 hown hbk7
  generalize w6.heap.size = g6 at HST7 ⊢
  rw [HM.out.1, HWB.out]
  dsimp only [errV]
  go_wp2_with fail
  have hca := rwalkB_any w7 Ab k w1.heap.size bs (by rw [HLN.out]; exact HR1.out.below HST7.out.bel) HST7.out.size (by rw [HLN.out]; exact HLL.out.2) (by rw [HLN.out]; have := HLL.out.1; omega) _ HL.out
  rw [HLN.out] at hca
  refine hca.mono ?_
  clear hca
  rintro e w8 ⟨A8, c8, rfl, hown, hb⟩
  rw [HM.out.1] at hown
  have hbk8 := own_bks hown HM.out.1.symm
  have hst8 := HST7.out.below hb
  have hsame := blocks_same w8 A7 A8 c7 c8 (l.getD []) ((HBK7.out.below hb).more hb.size) hbk8 (by rw [HM.out.1]; exact HM.out.2)
  rw [HM.out.1] at hsame
  obtain ⟨p0, p1, p2⟩ := up7_ (hst8.obj (p := g3) (.tail _ (.tail _ (.tail _ (.head _)))))
  obtain ⟨q0, q1, q2⟩ := up7_ (hst8.obj (p := g4) (.tail _ (.tail _ (.head _))))
  obtain ⟨r0, r1, r2⟩ := up7_ (hst8.obj (p := g5) (.tail _ (.head _)))
  obtain ⟨t0, t1, t2⟩ := up7_ (hst8.obj (p := g6) (.head _))
  have HST8 := Lib.hid hst8
  have HSM := Lib.hid hsame
  clear hb hst8 hsame hown hbk8 HST7 HBK7
  rw [HM.out.1, HWB.out]
  go_wp2_with fail
  refine HSM.out.mono ?_
  rintro e w9 ⟨rfl, hb⟩
  have HST9 := Lib.hid (HST8.out.below hb)
  clear hb HST8 HSM p0 p1 p2 q0 q1 q2 r0 r1 r2 t0 t1 t2
  go_wp2_with fail
  refine (code_err w9 3 (by omega) (by omega)).mono ?_
  rintro e w10 ⟨rfl, rfl⟩
  obtain ⟨b0, b1, b2⟩ := up7_ ((HST9.out.bel.block _ HLT.out).trans HN1.out)
  have HSet := Lib.hid (HS.out w9 g base 16384 c A bs xo xs xu _ HST9.out.ar HB1.out.2 (by rw [HLN.out]; exact HLL.out.1) hxo hxs HZ.out)
  go_wp2_with fail
  refine HSet.out.mono ?_
  rintro e w11 ⟨rfl, hbe⟩
  obtain ⟨A9, c9, hst⟩ := HST9.out.became hbe
  have HST11 := Lib.hid hst
  clear HSet hbe hst HST9 b0 b1 b2
  obtain ⟨b0, b1, b2⟩ := up7_ ((HST11.out.bel.block _ HLT.out).trans HN1.out)
  dsimp only [errV]
  go_wp2_with fail
  have hca := rsetB_any w11 Ab k bs (by rw [HLN.out]; exact HST11.out.rd HR1.out) (by rw [HLN.out]; exact HLL.out.2) HA0.out (by rw [HLN.out]; have := HLL.out.1; omega) xo xs xu hxo hxs _ HZ.out
  rw [HLN.out] at hca
  refine hca.mono ?_
  clear hca
  rintro e w12 ⟨A12, c12, rfl, hr12, _, _, hb⟩
  obtain ⟨wd, hwd⟩ : ∃ wd, w12.drew = wd := ⟨_, rfl⟩
  have bd : Below w12.heap.size w12 wd := by rw [← hwd]; exact (Below.refl _ _).drew
  have hst12 := (HST11.out.below hb).below bd
  have hby := bytes_any hst12.ar (by rw [setB_length HZ.out, HLN.out]; have := HLL.out.1; omega) HB1.out.2
  have HBY := Lib.hid hby
  have HR12 := Lib.hid ((hr12.below bd).more bd.size)
  have HWD := Lib.hid hwd
  have HK12 := Lib.hid (HB1'.out.trans (hst12.bel.mono HB1'.out.size))
  clear hb hst12 hby hr12 HST11 b0 b1 b2 bd hwd
  dsimp only [Option.getD, Option.isSome] at HR12 ⊢
  go_wp2_with fail
  refine wp_region_tail wd.heap.size [([0, 1, 2, 5, 6], 3)] [4, 7, 8, 9, 10, 11, 12, 13, 14, 15, 16, 17, 18, 19] [20, 21, 22, 23, 24, 25] (by kernel_rfl) (by kernel_rfl) (by kernel_rfl) (fun _ _ _ _ _ h => h) ?_
  rw [HWD.out]
  have qb := conv7 HR12.out
  refine tail_cons (l := ?seg1) ?hseg1 ?_
  case hseg1 => simp only [pick, List.getElem?_toArray, List.getElem?_cons_succ, List.getElem?_cons_zero]; rfl
  repeat (go_big_quiet_step (fail))
  refine wpQuiet_nil ?_
  clear qb
  refine tail_call2 (vs := #[.pointer (some ⟨g, 0, none⟩)]) Try.call18 rfl rfl rfl (R := fun r w' => ∃ A c, r = .slice A out.length c ∧ Rd w' w'.heap.size A out.length out ∧ Below wd.heap.size wd w') (HBY.out.mono ?_) ?_
  · rintro e w' ⟨A', c', rfl, ho, hb⟩
    exact ⟨_, rfl, hb, A', c', rfl, (own_facts ho).1, hb⟩
  rintro r w13 _ ⟨A13, c13, rfl, r13, b13⟩
  refine ⟨w13.heap.size, b13.size, ?_⟩
  have qa := conv7 r13
  refine tail_last (l := ?la3) (t := ?tl3) ?hla3 ?htl3 ?_
  case hla3 => simp only [pick, List.getElem?_toArray, List.getElem?_cons_succ, List.getElem?_cons_zero]; rfl
  case htl3 => simp only [pick, List.getElem?_toArray, List.getElem?_cons_succ, List.getElem?_cons_zero]; rfl
  simp only [Act.put, List.setIfInBounds_toArray, List.set_cons_zero, List.set_cons_succ]
  repeat (go_big_quiet_step (fail))
  refine wpQuiet_nil ?_
  have HK13 := Lib.hid (HK12.out.trans (b13.mono HK12.out.size))
  clear qa r13 b13 HR12 HBY HK12
  go_wp2
  go_ret
  exact ⟨rfl, HK13.out⟩


set_option maxRecDepth 100000 in
set_option maxHeartbeats 4000000 in
theorem bt_1100 (HG : GetC) (HA : AheadC) (HS : SetC) (HW : WalkC) (w : World) (n : Nat) (hn : n < 18446744073709551616) (Ab : Option Addr) (k : Nat) (bs : List UInt8) (hr : Rd w w.heap.size Ab bs.length bs) (hbk : bs.length ≤ k) (hA0 : Ab = none → k = 0) (hl : bs.length ≤ 16384) (o : Int) (ho : -9223372036854775808 ≤ o ∧ o ≤ 9223372036854775807)
    (xo xs : Int) (xu : Bool) (hxo : -9223372036854775808 ≤ xo ∧ xo ≤ 9223372036854775807) (hxs : -9223372036854775808 ≤ xs ∧ xs ≤ 9223372036854775807)
    (x y : Option Bk) (l : Option (List Bk)) (hx : getB bs o = x) (hy : aheadB bs o = y) (hw : walkB bs = l) (hxb : x.isSome = true) (hyb : y.isSome = true) (hwb : l.isSome = false) (hz : setB bs xo xs xu = none) :
    Calls Try.prog 3 #[.int .u64 (n : Int), .slice Ab bs.length k, .int .i64 o, .agg #[.int .i64 xo, .int .i64 xs, .bool xu]] w fun e w' => e = .returned (.bool true) ∧ Below w.heap.size w w' := by
  obtain ⟨ln, hln⟩ : ∃ ln, bs.length = ln := ⟨_, rfl⟩
  obtain ⟨m, hm⟩ : ∃ m, (l.getD []).length = m := ⟨_, rfl⟩
  obtain ⟨xa, xb, xc, hxv⟩ := bkV_is x
  obtain ⟨ya, yb, yc, hyv⟩ := bkV_is y
  have hm1 : m ≤ 1000000 := by
    cases l with
    | none => simp at hm; omega
    | some l => have := walkB_len hw; simp at hm; omega
  rw [hln] at hr hbk hl ⊢
  obtain ⟨wx, hwx⟩ : ∃ wx, w.alloc (.cells #[.int .i64 xo, .int .i64 xs, .bool xu] 25) = wx := ⟨_, rfl⟩
  have hbx : Below w.heap.size w wx := by rw [← hwx]; exact (Below.refl _ _).alloc (Nat.le_refl _) _
  have hnx : wx.heap[w.heap.size]? = some (.cells #[.int .i64 xo, .int .i64 xs, .bool xu] 25 (0, 0)) := by rw [← hwx]; exact heap_alloc_new w _
  have s0 : decide ((16384 : Int) < (ln : Int)) = false := decide_eq_false (by omega)
  obtain ⟨base, hbase⟩ : ∃ base, n % 288230376151711744 * 16 = base := ⟨_, rfl⟩
  have hb1 : base % 16 = 0 := by omega
  have hb2 : base ≤ 4611686018427387904 := by omega
  have HBase := Lib.hid (fun W => lawbase_any W n hn)
  rw [hbase] at HBase
  have HR := Lib.hid ((hr.below hbx).more hbx.size)
  have HBX := Lib.hid hbx
  have HNX := Lib.hid hnx
  have HWX := Lib.hid hwx
  have HLN := Lib.hid hln
  have HB1 := Lib.hid (And.intro hb1 hb2)
  have HX := Lib.hid hx
  have HY := Lib.hid hy
  have HL := Lib.hid hw
  have HZ := Lib.hid hz
  have HM := Lib.hid (And.intro hm hm1)
  have HXV := Lib.hid (And.intro hxv hxb)
  have HYV := Lib.hid (And.intro hyv hyb)
  have HWB := Lib.hid hwb
  have HLL := Lib.hid (And.intro hl hbk)
  have HA0 := Lib.hid hA0
  have HG := Lib.hid HG
  have HA := Lib.hid HA
  have HS := Lib.hid HS
  have HW := Lib.hid HW
  have HUP := Lib.hid (up7_any HG.out HA.out HS.out HW.out)
  clear hx hy hw hz hm hm1 hxv hxb hyv hyb hwb hr hbx hnx hwx hln hbase hb1 hb2 hl hbk hA0 hn
  go_enter Try.func3, Try.ntmps3
  go_wp2_with fail
  rw [HWX.out]
  refine (HUP.out _).mono ?_
  rintro e w1 ⟨rfl, hb⟩
  have HR1 := Lib.hid ((HR.out.below hb).more hb.size)
  have HB1' := Lib.hid (HBX.out.trans (hb.mono HBX.out.size))
  have HN1 := Lib.hid ((hb.block _ (heap_lt HNX.out)).trans HNX.out)
  have HLT := Lib.hid (Nat.lt_of_lt_of_le (heap_lt HNX.out) hb.size)
  clear HUP HR HBX HNX HWX hb
  go_wp2_with fail
  refine (HBase.out w1).mono ?_
  rintro e w2 ⟨rfl, rfl⟩
  go_wp2_with fail
  have hma := arena_any w1 base 16384 Ab k bs (by rw [HLN.out]; exact HR1.out) HB1.out.1 HB1.out.2 (by omega) (by omega) (by rw [HLN.out]; exact HLL.out.1)
  rw [HLN.out] at hma
  refine hma.mono ?_
  clear hma
  rintro e w2 hmade
  obtain ⟨g, A, c, rfl, hst⟩ := St.made hmade
  have HST := Lib.hid hst
  clear hmade hst HBase
  go_wp2_with fail
  refine (HG.out w2 g base 16384 c A bs o _ HST.out.ar HB1.out.2 (by rw [HLN.out]; exact HLL.out.1) ho HX.out).mono ?_
  rintro e w3 ⟨rfl, hb⟩
  have HST3 := Lib.hid (HST.out.below hb)
  clear hb HST
  rw [HXV.out.1, HXV.out.2]
  dsimp only [errV]
  go_wp2_with fail
  have hst4 := HST3.out.alloc (.cells #[.int .i64 xa, .int .i64 xb, .bool xc] 25)
  have hca := rgetB_any _ Ab k w1.heap.size bs (by rw [HLN.out]; exact HR1.out.below hst4.bel) (by rw [HLN.out]; exact HLL.out.2) (by rw [HLN.out]; have := HLL.out.1; omega) o ho _ HX.out
  rw [HLN.out] at hca
  refine hca.mono ?_
  clear hca
  rintro e w4 ⟨rfl, hb⟩
  have HST4 := Lib.hid (hst4.below hb)
  clear hb hst4 HST3
  generalize w3.heap.size = g3 at HST4 ⊢
  rw [HXV.out.1, HXV.out.2]
  go_wp2_with fail
  have hst5 := HST4.out.alloc (.cells #[.int .i64 xa, .int .i64 xb, .bool xc] 25)
  refine (HA.out _ g base 16384 c A bs o _ hst5.ar HB1.out.2 (by rw [HLN.out]; exact HLL.out.1) ho HY.out).mono ?_
  rintro e w5 ⟨rfl, hb⟩
  have HST5 := Lib.hid (hst5.below hb)
  clear hb hst5 HST4
  generalize w4.heap.size = g4 at HST5 ⊢
  rw [HYV.out.1, HYV.out.2]
  dsimp only [errV]
  go_wp2_with fail
  have hst6 := HST5.out.alloc (.cells #[.int .i64 ya, .int .i64 yb, .bool yc] 25)
  have hca := raheadB_any _ Ab k w1.heap.size bs (by rw [HLN.out]; exact HR1.out.below hst6.bel) (by rw [HLN.out]; exact HLL.out.2) (by rw [HLN.out]; have := HLL.out.1; omega) o ho _ HY.out
  rw [HLN.out] at hca
  refine hca.mono ?_
  clear hca
  rintro e w6 ⟨rfl, hb⟩
  have HST6 := Lib.hid (hst6.below hb)
  clear hb hst6 HST5
  generalize w5.heap.size = g5 at HST6 ⊢
  rw [HYV.out.1, HYV.out.2]
  go_wp2_with fail
  have hst7 := HST6.out.alloc (.cells #[.int .i64 ya, .int .i64 yb, .bool yc] 25)
  refine (HW.out _ g base 16384 c A bs _ hst7.ar HB1.out.2 (by rw [HLN.out]; exact HLL.out.1) HL.out).mono ?_
  rintro e w7 ⟨A7, c7, rfl, hown, hb⟩
  rw [HM.out.1] at hown
  have hbk7 := own_bks hown HM.out.1.symm
  have HST7 := Lib.hid (hst7.below hb)
  have HBK7 := Lib.hid hbk7
  clear hb hst7 HST6 hown hbk7
  generalize w6.heap.size = g6 at HST7 ⊢
  rw [HM.out.1, HWB.out]
  dsimp only [errV]
  go_wp2_with fail
  have hca := rwalkB_any w7 Ab k w1.heap.size bs (by rw [HLN.out]; exact HR1.out.below HST7.out.bel) HST7.out.size (by rw [HLN.out]; exact HLL.out.2) (by rw [HLN.out]; have := HLL.out.1; omega) _ HL.out
  rw [HLN.out] at hca
  refine hca.mono ?_
  clear hca
  rintro e w8 ⟨A8, c8, rfl, hown, hb⟩
  rw [HM.out.1] at hown
  have hbk8 := own_bks hown HM.out.1.symm
  have hst8 := HST7.out.below hb
  have hsame := blocks_same w8 A7 A8 c7 c8 (l.getD []) ((HBK7.out.below hb).more hb.size) hbk8 (by rw [HM.out.1]; exact HM.out.2)
  rw [HM.out.1] at hsame
  obtain ⟨p0, p1, p2⟩ := up7_ (hst8.obj (p := g3) (.tail _ (.tail _ (.tail _ (.head _)))))
  obtain ⟨q0, q1, q2⟩ := up7_ (hst8.obj (p := g4) (.tail _ (.tail _ (.head _))))
  obtain ⟨r0, r1, r2⟩ := up7_ (hst8.obj (p := g5) (.tail _ (.head _)))
  obtain ⟨t0, t1, t2⟩ := up7_ (hst8.obj (p := g6) (.head _))
  have HST8 := Lib.hid hst8
  have HSM := Lib.hid hsame
  clear hb hst8 hsame hown hbk8 HST7 HBK7
  rw [HM.out.1, HWB.out]
  go_wp2_with fail
  refine HSM.out.mono ?_
  rintro e w9 ⟨rfl, hb⟩
  have HST9 := Lib.hid (HST8.out.below hb)
  clear hb HST8 HSM p0 p1 p2 q0 q1 q2 r0 r1 r2 t0 t1 t2
  go_wp2_with fail
  refine (code_err w9 3 (by omega) (by omega)).mono ?_
  rintro e w10 ⟨rfl, rfl⟩
  obtain ⟨b0, b1, b2⟩ := up7_ ((HST9.out.bel.block _ HLT.out).trans HN1.out)
  have HSet := Lib.hid (HS.out w9 g base 16384 c A bs xo xs xu _ HST9.out.ar HB1.out.2 (by rw [HLN.out]; exact HLL.out.1) hxo hxs HZ.out)
  go_wp2_with fail
  refine HSet.out.mono ?_
  rintro e w11 ⟨rfl, hb⟩
  have HST11 := Lib.hid (HST9.out.below hb)
  clear HSet hb HST9 b0 b1 b2
  obtain ⟨b0, b1, b2⟩ := up7_ ((HST11.out.bel.block _ HLT.out).trans HN1.out)
  dsimp only [errV]
  go_wp2_with fail
  have hca := rsetB_any w11 Ab k bs (by rw [HLN.out]; exact HST11.out.rd HR1.out) (by rw [HLN.out]; exact HLL.out.2) HA0.out (by rw [HLN.out]; have := HLL.out.1; omega) xo xs xu hxo hxs _ HZ.out
  rw [HLN.out] at hca
  refine hca.mono ?_
  clear hca
  rintro e w12 ⟨A12, c12, rfl, hr12, _, _, hb⟩
  obtain ⟨wd, hwd⟩ : ∃ wd, w12.drew = wd := ⟨_, rfl⟩
  have bd : Below w12.heap.size w12 wd := by rw [← hwd]; exact (Below.refl _ _).drew
  have hst12 := (HST11.out.below hb).below bd
  have hby := bytes_any hst12.ar (by rw [HLN.out]; have := HLL.out.1; omega) HB1.out.2
  have HBY := Lib.hid hby
  have HR12 := Lib.hid ((hr12.below bd).more bd.size)
  have HWD := Lib.hid hwd
  have HK12 := Lib.hid (HB1'.out.trans (hst12.bel.mono HB1'.out.size))
  clear hb hst12 hby hr12 HST11 b0 b1 b2 bd hwd
  dsimp only [Option.getD, Option.isSome] at HR12 ⊢
  go_wp2_with fail
  refine wp_region_tail wd.heap.size [([0, 1, 2, 5, 6], 3)] [4, 7, 8, 9, 10, 11, 12, 13, 14, 15, 16, 17, 18, 19] [20, 21, 22, 23, 24, 25] (by kernel_rfl) (by kernel_rfl) (by kernel_rfl) (fun _ _ _ _ _ h => h) ?_
  rw [HWD.out]
  have qb := conv7 HR12.out
  refine tail_cons (l := ?seg1) ?hseg1 ?_
  case hseg1 => simp only [pick, List.getElem?_toArray, List.getElem?_cons_succ, List.getElem?_cons_zero]; rfl
  repeat (go_big_quiet_step (fail))
  refine wpQuiet_nil ?_
  clear qb
  refine tail_call2 (vs := #[.pointer (some ⟨g, 0, none⟩)]) Try.call18 rfl rfl rfl (R := fun r w' => ∃ A c, r = .slice A bs.length c ∧ Rd w' w'.heap.size A bs.length bs ∧ Below wd.heap.size wd w') (HBY.out.mono ?_) ?_
  · rintro e w' ⟨A', c', rfl, ho, hb⟩
    exact ⟨_, rfl, hb, A', c', rfl, (own_facts ho).1, hb⟩
  rintro r w13 _ ⟨A13, c13, rfl, r13, b13⟩
  refine ⟨w13.heap.size, b13.size, ?_⟩
  have qa := conv7 r13
  refine tail_last (l := ?la3) (t := ?tl3) ?hla3 ?htl3 ?_
  case hla3 => simp only [pick, List.getElem?_toArray, List.getElem?_cons_succ, List.getElem?_cons_zero]; rfl
  case htl3 => simp only [pick, List.getElem?_toArray, List.getElem?_cons_succ, List.getElem?_cons_zero]; rfl
  simp only [Act.put, List.setIfInBounds_toArray, List.set_cons_zero, List.set_cons_succ]
  repeat (go_big_quiet_step (fail))
  refine wpQuiet_nil ?_
  have HK13 := Lib.hid (HK12.out.trans (b13.mono HK12.out.size))
  clear qa r13 b13 HR12 HBY HK12
  go_wp2_with fail
  refine (code_err _ 1 (by omega) (by omega)).mono ?_
  rintro e w14 ⟨rfl, rfl⟩
  go_wp2
  go_ret
  exact ⟨rfl, HK13.out⟩


set_option maxRecDepth 100000 in
set_option maxHeartbeats 4000000 in
theorem bt_1011 (HG : GetC) (HA : AheadC) (HS : SetC) (HW : WalkC) (w : World) (n : Nat) (hn : n < 18446744073709551616) (Ab : Option Addr) (k : Nat) (bs : List UInt8) (hr : Rd w w.heap.size Ab bs.length bs) (hbk : bs.length ≤ k) (hA0 : Ab = none → k = 0) (hl : bs.length ≤ 16384) (o : Int) (ho : -9223372036854775808 ≤ o ∧ o ≤ 9223372036854775807)
    (xo xs : Int) (xu : Bool) (hxo : -9223372036854775808 ≤ xo ∧ xo ≤ 9223372036854775807) (hxs : -9223372036854775808 ≤ xs ∧ xs ≤ 9223372036854775807)
    (x y : Option Bk) (l : Option (List Bk)) (hx : getB bs o = x) (hy : aheadB bs o = y) (hw : walkB bs = l) (hxb : x.isSome = true) (hyb : y.isSome = false) (hwb : l.isSome = true) (out : List UInt8) (hz : setB bs xo xs xu = some out) :
    Calls Try.prog 3 #[.int .u64 (n : Int), .slice Ab bs.length k, .int .i64 o, .agg #[.int .i64 xo, .int .i64 xs, .bool xu]] w fun e w' => e = .returned (.bool true) ∧ Below w.heap.size w w' := by
  obtain ⟨ln, hln⟩ : ∃ ln, bs.length = ln := ⟨_, rfl⟩
  obtain ⟨m, hm⟩ : ∃ m, (l.getD []).length = m := ⟨_, rfl⟩
  obtain ⟨xa, xb, xc, hxv⟩ := bkV_is x
  obtain ⟨ya, yb, yc, hyv⟩ := bkV_is y
  have hm1 : m ≤ 1000000 := by
    cases l with
    | none => simp at hm; omega
    | some l => have := walkB_len hw; simp at hm; omega
  rw [hln] at hr hbk hl ⊢
  obtain ⟨wx, hwx⟩ : ∃ wx, w.alloc (.cells #[.int .i64 xo, .int .i64 xs, .bool xu] 25) = wx := ⟨_, rfl⟩
  have hbx : Below w.heap.size w wx := by rw [← hwx]; exact (Below.refl _ _).alloc (Nat.le_refl _) _
  have hnx : wx.heap[w.heap.size]? = some (.cells #[.int .i64 xo, .int .i64 xs, .bool xu] 25 (0, 0)) := by rw [← hwx]; exact heap_alloc_new w _
  have s0 : decide ((16384 : Int) < (ln : Int)) = false := decide_eq_false (by omega)
  obtain ⟨base, hbase⟩ : ∃ base, n % 288230376151711744 * 16 = base := ⟨_, rfl⟩
  have hb1 : base % 16 = 0 := by omega
  have hb2 : base ≤ 4611686018427387904 := by omega
  have HBase := Lib.hid (fun W => lawbase_any W n hn)
  rw [hbase] at HBase
  have HR := Lib.hid ((hr.below hbx).more hbx.size)
  have HBX := Lib.hid hbx
  have HNX := Lib.hid hnx
  have HWX := Lib.hid hwx
  have HLN := Lib.hid hln
  have HB1 := Lib.hid (And.intro hb1 hb2)
  have HX := Lib.hid hx
  have HY := Lib.hid hy
  have HL := Lib.hid hw
  have HZ := Lib.hid hz
  have HM := Lib.hid (And.intro hm hm1)
  have HXV := Lib.hid (And.intro hxv hxb)
  have HYV := Lib.hid (And.intro hyv hyb)
  have HWB := Lib.hid hwb
  have HLL := Lib.hid (And.intro hl hbk)
  have HA0 := Lib.hid hA0
  have HG := Lib.hid HG
  have HA := Lib.hid HA
  have HS := Lib.hid HS
  have HW := Lib.hid HW
  have HUP := Lib.hid (up7_any HG.out HA.out HS.out HW.out)
  clear hx hy hw hz hm hm1 hxv hxb hyv hyb hwb hr hbx hnx hwx hln hbase hb1 hb2 hl hbk hA0 hn
  go_enter Try.func3, Try.ntmps3
  go_wp2_with fail
  rw [HWX.out]
  refine (HUP.out _).mono ?_
  rintro e w1 ⟨rfl, hb⟩
  have HR1 := Lib.hid ((HR.out.below hb).more hb.size)
  have HB1' := Lib.hid (HBX.out.trans (hb.mono HBX.out.size))
  have HN1 := Lib.hid ((hb.block _ (heap_lt HNX.out)).trans HNX.out)
  have HLT := Lib.hid (Nat.lt_of_lt_of_le (heap_lt HNX.out) hb.size)
  clear HUP HR HBX HNX HWX hb
  go_wp2_with fail
  refine (HBase.out w1).mono ?_
  rintro e w2 ⟨rfl, rfl⟩
  go_wp2_with fail
  have hma := arena_any w1 base 16384 Ab k bs (by rw [HLN.out]; exact HR1.out) HB1.out.1 HB1.out.2 (by omega) (by omega) (by rw [HLN.out]; exact HLL.out.1)
  rw [HLN.out] at hma
  refine hma.mono ?_
  clear hma
  rintro e w2 hmade
  obtain ⟨g, A, c, rfl, hst⟩ := St.made hmade
  have HST := Lib.hid hst
  clear hmade hst HBase
  go_wp2_with fail
  refine (HG.out w2 g base 16384 c A bs o _ HST.out.ar HB1.out.2 (by rw [HLN.out]; exact HLL.out.1) ho HX.out).mono ?_
  rintro e w3 ⟨rfl, hb⟩
  have HST3 := Lib.hid (HST.out.below hb)
  clear hb HST
  rw [HXV.out.1, HXV.out.2]
  dsimp only [errV]
  go_wp2_with fail
  have hst4 := HST3.out.alloc (.cells #[.int .i64 xa, .int .i64 xb, .bool xc] 25)
  have hca := rgetB_any _ Ab k w1.heap.size bs (by rw [HLN.out]; exact HR1.out.below hst4.bel) (by rw [HLN.out]; exact HLL.out.2) (by rw [HLN.out]; have := HLL.out.1; omega) o ho _ HX.out
  rw [HLN.out] at hca
  refine hca.mono ?_
  clear hca
  rintro e w4 ⟨rfl, hb⟩
  have HST4 := Lib.hid (hst4.below hb)
  clear hb hst4 HST3
  generalize w3.heap.size = g3 at HST4 ⊢
  rw [HXV.out.1, HXV.out.2]
  go_wp2_with fail
  have hst5 := HST4.out.alloc (.cells #[.int .i64 xa, .int .i64 xb, .bool xc] 25)
  refine (HA.out _ g base 16384 c A bs o _ hst5.ar HB1.out.2 (by rw [HLN.out]; exact HLL.out.1) ho HY.out).mono ?_
  rintro e w5 ⟨rfl, hb⟩
  have HST5 := Lib.hid (hst5.below hb)
  clear hb hst5 HST4
  generalize w4.heap.size = g4 at HST5 ⊢
  rw [HYV.out.1, HYV.out.2]
  dsimp only [errV]
  go_wp2_with fail
  have hst6 := HST5.out.alloc (.cells #[.int .i64 ya, .int .i64 yb, .bool yc] 25)
  have hca := raheadB_any _ Ab k w1.heap.size bs (by rw [HLN.out]; exact HR1.out.below hst6.bel) (by rw [HLN.out]; exact HLL.out.2) (by rw [HLN.out]; have := HLL.out.1; omega) o ho _ HY.out
  rw [HLN.out] at hca
  refine hca.mono ?_
  clear hca
  rintro e w6 ⟨rfl, hb⟩
  have HST6 := Lib.hid (hst6.below hb)
  clear hb hst6 HST5
  generalize w5.heap.size = g5 at HST6 ⊢
  rw [HYV.out.1, HYV.out.2]
  go_wp2_with fail
  have hst7 := HST6.out.alloc (.cells #[.int .i64 ya, .int .i64 yb, .bool yc] 25)
  refine (HW.out _ g base 16384 c A bs _ hst7.ar HB1.out.2 (by rw [HLN.out]; exact HLL.out.1) HL.out).mono ?_
  rintro e w7 ⟨A7, c7, rfl, hown, hb⟩
  rw [HM.out.1] at hown
  have hbk7 := own_bks hown HM.out.1.symm
  have HST7 := Lib.hid (hst7.below hb)
  have HBK7 := Lib.hid hbk7
  clear hb hst7 HST6 hown hbk7
  generalize w6.heap.size = g6 at HST7 ⊢
  rw [HM.out.1, HWB.out]
  dsimp only [errV]
  go_wp2_with fail
  have hca := rwalkB_any w7 Ab k w1.heap.size bs (by rw [HLN.out]; exact HR1.out.below HST7.out.bel) HST7.out.size (by rw [HLN.out]; exact HLL.out.2) (by rw [HLN.out]; have := HLL.out.1; omega) _ HL.out
  rw [HLN.out] at hca
  refine hca.mono ?_
  clear hca
  rintro e w8 ⟨A8, c8, rfl, hown, hb⟩
  rw [HM.out.1] at hown
  have hbk8 := own_bks hown HM.out.1.symm
  have hst8 := HST7.out.below hb
  have hsame := blocks_same w8 A7 A8 c7 c8 (l.getD []) ((HBK7.out.below hb).more hb.size) hbk8 (by rw [HM.out.1]; exact HM.out.2)
  rw [HM.out.1] at hsame
  obtain ⟨p0, p1, p2⟩ := up7_ (hst8.obj (p := g3) (.tail _ (.tail _ (.tail _ (.head _)))))
  obtain ⟨q0, q1, q2⟩ := up7_ (hst8.obj (p := g4) (.tail _ (.tail _ (.head _))))
  obtain ⟨r0, r1, r2⟩ := up7_ (hst8.obj (p := g5) (.tail _ (.head _)))
  obtain ⟨t0, t1, t2⟩ := up7_ (hst8.obj (p := g6) (.head _))
  have HST8 := Lib.hid hst8
  have HSM := Lib.hid hsame
  clear hb hst8 hsame hown hbk8 HST7 HBK7
  rw [HM.out.1, HWB.out]
  go_wp2_with fail
  refine HSM.out.mono ?_
  rintro e w9 ⟨rfl, hb⟩
  have HST9 := Lib.hid (HST8.out.below hb)
  clear hb HST8 HSM p0 p1 p2 q0 q1 q2 r0 r1 r2 t0 t1 t2
  go_wp2_with fail
  refine (code_err w9 3 (by omega) (by omega)).mono ?_
  rintro e w10 ⟨rfl, rfl⟩
  obtain ⟨b0, b1, b2⟩ := up7_ ((HST9.out.bel.block _ HLT.out).trans HN1.out)
  have HSet := Lib.hid (HS.out w9 g base 16384 c A bs xo xs xu _ HST9.out.ar HB1.out.2 (by rw [HLN.out]; exact HLL.out.1) hxo hxs HZ.out)
  go_wp2_with fail
  refine HSet.out.mono ?_
  rintro e w11 ⟨rfl, hbe⟩
  obtain ⟨A9, c9, hst⟩ := HST9.out.became hbe
  have HST11 := Lib.hid hst
  clear HSet hbe hst HST9 b0 b1 b2
  obtain ⟨b0, b1, b2⟩ := up7_ ((HST11.out.bel.block _ HLT.out).trans HN1.out)
  dsimp only [errV]
  go_wp2_with fail
  have hca := rsetB_any w11 Ab k bs (by rw [HLN.out]; exact HST11.out.rd HR1.out) (by rw [HLN.out]; exact HLL.out.2) HA0.out (by rw [HLN.out]; have := HLL.out.1; omega) xo xs xu hxo hxs _ HZ.out
  rw [HLN.out] at hca
  refine hca.mono ?_
  clear hca
  rintro e w12 ⟨A12, c12, rfl, hr12, _, _, hb⟩
  obtain ⟨wd, hwd⟩ : ∃ wd, w12.drew = wd := ⟨_, rfl⟩
  have bd : Below w12.heap.size w12 wd := by rw [← hwd]; exact (Below.refl _ _).drew
  have hst12 := (HST11.out.below hb).below bd
  have hby := bytes_any hst12.ar (by rw [setB_length HZ.out, HLN.out]; have := HLL.out.1; omega) HB1.out.2
  have HBY := Lib.hid hby
  have HR12 := Lib.hid ((hr12.below bd).more bd.size)
  have HWD := Lib.hid hwd
  have HK12 := Lib.hid (HB1'.out.trans (hst12.bel.mono HB1'.out.size))
  clear hb hst12 hby hr12 HST11 b0 b1 b2 bd hwd
  dsimp only [Option.getD, Option.isSome] at HR12 ⊢
  go_wp2_with fail
  refine wp_region_tail wd.heap.size [([0, 1, 2, 5, 6], 3)] [4, 7, 8, 9, 10, 11, 12, 13, 14, 15, 16, 17, 18, 19] [20, 21, 22, 23, 24, 25] (by kernel_rfl) (by kernel_rfl) (by kernel_rfl) (fun _ _ _ _ _ h => h) ?_
  rw [HWD.out]
  have qb := conv7 HR12.out
  refine tail_cons (l := ?seg1) ?hseg1 ?_
  case hseg1 => simp only [pick, List.getElem?_toArray, List.getElem?_cons_succ, List.getElem?_cons_zero]; rfl
  repeat (go_big_quiet_step (fail))
  refine wpQuiet_nil ?_
  clear qb
  refine tail_call2 (vs := #[.pointer (some ⟨g, 0, none⟩)]) Try.call18 rfl rfl rfl (R := fun r w' => ∃ A c, r = .slice A out.length c ∧ Rd w' w'.heap.size A out.length out ∧ Below wd.heap.size wd w') (HBY.out.mono ?_) ?_
  · rintro e w' ⟨A', c', rfl, ho, hb⟩
    exact ⟨_, rfl, hb, A', c', rfl, (own_facts ho).1, hb⟩
  rintro r w13 _ ⟨A13, c13, rfl, r13, b13⟩
  refine ⟨w13.heap.size, b13.size, ?_⟩
  have qa := conv7 r13
  refine tail_last (l := ?la3) (t := ?tl3) ?hla3 ?htl3 ?_
  case hla3 => simp only [pick, List.getElem?_toArray, List.getElem?_cons_succ, List.getElem?_cons_zero]; rfl
  case htl3 => simp only [pick, List.getElem?_toArray, List.getElem?_cons_succ, List.getElem?_cons_zero]; rfl
  simp only [Act.put, List.setIfInBounds_toArray, List.set_cons_zero, List.set_cons_succ]
  repeat (go_big_quiet_step (fail))
  refine wpQuiet_nil ?_
  have HK13 := Lib.hid (HK12.out.trans (b13.mono HK12.out.size))
  clear qa r13 b13 HR12 HBY HK12
  go_wp2
  go_ret
  exact ⟨rfl, HK13.out⟩


set_option maxRecDepth 100000 in
set_option maxHeartbeats 4000000 in
theorem bt_1010 (HG : GetC) (HA : AheadC) (HS : SetC) (HW : WalkC) (w : World) (n : Nat) (hn : n < 18446744073709551616) (Ab : Option Addr) (k : Nat) (bs : List UInt8) (hr : Rd w w.heap.size Ab bs.length bs) (hbk : bs.length ≤ k) (hA0 : Ab = none → k = 0) (hl : bs.length ≤ 16384) (o : Int) (ho : -9223372036854775808 ≤ o ∧ o ≤ 9223372036854775807)
    (xo xs : Int) (xu : Bool) (hxo : -9223372036854775808 ≤ xo ∧ xo ≤ 9223372036854775807) (hxs : -9223372036854775808 ≤ xs ∧ xs ≤ 9223372036854775807)
    (x y : Option Bk) (l : Option (List Bk)) (hx : getB bs o = x) (hy : aheadB bs o = y) (hw : walkB bs = l) (hxb : x.isSome = true) (hyb : y.isSome = false) (hwb : l.isSome = true) (hz : setB bs xo xs xu = none) :
    Calls Try.prog 3 #[.int .u64 (n : Int), .slice Ab bs.length k, .int .i64 o, .agg #[.int .i64 xo, .int .i64 xs, .bool xu]] w fun e w' => e = .returned (.bool true) ∧ Below w.heap.size w w' := by
  obtain ⟨ln, hln⟩ : ∃ ln, bs.length = ln := ⟨_, rfl⟩
  obtain ⟨m, hm⟩ : ∃ m, (l.getD []).length = m := ⟨_, rfl⟩
  obtain ⟨xa, xb, xc, hxv⟩ := bkV_is x
  obtain ⟨ya, yb, yc, hyv⟩ := bkV_is y
  have hm1 : m ≤ 1000000 := by
    cases l with
    | none => simp at hm; omega
    | some l => have := walkB_len hw; simp at hm; omega
  rw [hln] at hr hbk hl ⊢
  obtain ⟨wx, hwx⟩ : ∃ wx, w.alloc (.cells #[.int .i64 xo, .int .i64 xs, .bool xu] 25) = wx := ⟨_, rfl⟩
  have hbx : Below w.heap.size w wx := by rw [← hwx]; exact (Below.refl _ _).alloc (Nat.le_refl _) _
  have hnx : wx.heap[w.heap.size]? = some (.cells #[.int .i64 xo, .int .i64 xs, .bool xu] 25 (0, 0)) := by rw [← hwx]; exact heap_alloc_new w _
  have s0 : decide ((16384 : Int) < (ln : Int)) = false := decide_eq_false (by omega)
  obtain ⟨base, hbase⟩ : ∃ base, n % 288230376151711744 * 16 = base := ⟨_, rfl⟩
  have hb1 : base % 16 = 0 := by omega
  have hb2 : base ≤ 4611686018427387904 := by omega
  have HBase := Lib.hid (fun W => lawbase_any W n hn)
  rw [hbase] at HBase
  have HR := Lib.hid ((hr.below hbx).more hbx.size)
  have HBX := Lib.hid hbx
  have HNX := Lib.hid hnx
  have HWX := Lib.hid hwx
  have HLN := Lib.hid hln
  have HB1 := Lib.hid (And.intro hb1 hb2)
  have HX := Lib.hid hx
  have HY := Lib.hid hy
  have HL := Lib.hid hw
  have HZ := Lib.hid hz
  have HM := Lib.hid (And.intro hm hm1)
  have HXV := Lib.hid (And.intro hxv hxb)
  have HYV := Lib.hid (And.intro hyv hyb)
  have HWB := Lib.hid hwb
  have HLL := Lib.hid (And.intro hl hbk)
  have HA0 := Lib.hid hA0
  have HG := Lib.hid HG
  have HA := Lib.hid HA
  have HS := Lib.hid HS
  have HW := Lib.hid HW
  have HUP := Lib.hid (up7_any HG.out HA.out HS.out HW.out)
  clear hx hy hw hz hm hm1 hxv hxb hyv hyb hwb hr hbx hnx hwx hln hbase hb1 hb2 hl hbk hA0 hn
  go_enter Try.func3, Try.ntmps3
  go_wp2_with fail
  rw [HWX.out]
  refine (HUP.out _).mono ?_
  rintro e w1 ⟨rfl, hb⟩
  have HR1 := Lib.hid ((HR.out.below hb).more hb.size)
  have HB1' := Lib.hid (HBX.out.trans (hb.mono HBX.out.size))
  have HN1 := Lib.hid ((hb.block _ (heap_lt HNX.out)).trans HNX.out)
  have HLT := Lib.hid (Nat.lt_of_lt_of_le (heap_lt HNX.out) hb.size)
  clear HUP HR HBX HNX HWX hb
  go_wp2_with fail
  refine (HBase.out w1).mono ?_
  rintro e w2 ⟨rfl, rfl⟩
  go_wp2_with fail
  have hma := arena_any w1 base 16384 Ab k bs (by rw [HLN.out]; exact HR1.out) HB1.out.1 HB1.out.2 (by omega) (by omega) (by rw [HLN.out]; exact HLL.out.1)
  rw [HLN.out] at hma
  refine hma.mono ?_
  clear hma
  rintro e w2 hmade
  obtain ⟨g, A, c, rfl, hst⟩ := St.made hmade
  have HST := Lib.hid hst
  clear hmade hst HBase
  go_wp2_with fail
  refine (HG.out w2 g base 16384 c A bs o _ HST.out.ar HB1.out.2 (by rw [HLN.out]; exact HLL.out.1) ho HX.out).mono ?_
  rintro e w3 ⟨rfl, hb⟩
  have HST3 := Lib.hid (HST.out.below hb)
  clear hb HST
  rw [HXV.out.1, HXV.out.2]
  dsimp only [errV]
  go_wp2_with fail
  have hst4 := HST3.out.alloc (.cells #[.int .i64 xa, .int .i64 xb, .bool xc] 25)
  have hca := rgetB_any _ Ab k w1.heap.size bs (by rw [HLN.out]; exact HR1.out.below hst4.bel) (by rw [HLN.out]; exact HLL.out.2) (by rw [HLN.out]; have := HLL.out.1; omega) o ho _ HX.out
  rw [HLN.out] at hca
  refine hca.mono ?_
  clear hca
  rintro e w4 ⟨rfl, hb⟩
  have HST4 := Lib.hid (hst4.below hb)
  clear hb hst4 HST3
  generalize w3.heap.size = g3 at HST4 ⊢
  rw [HXV.out.1, HXV.out.2]
  go_wp2_with fail
  have hst5 := HST4.out.alloc (.cells #[.int .i64 xa, .int .i64 xb, .bool xc] 25)
  refine (HA.out _ g base 16384 c A bs o _ hst5.ar HB1.out.2 (by rw [HLN.out]; exact HLL.out.1) ho HY.out).mono ?_
  rintro e w5 ⟨rfl, hb⟩
  have HST5 := Lib.hid (hst5.below hb)
  clear hb hst5 HST4
  generalize w4.heap.size = g4 at HST5 ⊢
  rw [HYV.out.1, HYV.out.2]
  dsimp only [errV]
  go_wp2_with fail
  have hst6 := HST5.out.alloc (.cells #[.int .i64 ya, .int .i64 yb, .bool yc] 25)
  have hca := raheadB_any _ Ab k w1.heap.size bs (by rw [HLN.out]; exact HR1.out.below hst6.bel) (by rw [HLN.out]; exact HLL.out.2) (by rw [HLN.out]; have := HLL.out.1; omega) o ho _ HY.out
  rw [HLN.out] at hca
  refine hca.mono ?_
  clear hca
  rintro e w6 ⟨rfl, hb⟩
  have HST6 := Lib.hid (hst6.below hb)
  clear hb hst6 HST5
  generalize w5.heap.size = g5 at HST6 ⊢
  rw [HYV.out.1, HYV.out.2]
  go_wp2_with fail
  have hst7 := HST6.out.alloc (.cells #[.int .i64 ya, .int .i64 yb, .bool yc] 25)
  refine (HW.out _ g base 16384 c A bs _ hst7.ar HB1.out.2 (by rw [HLN.out]; exact HLL.out.1) HL.out).mono ?_
  rintro e w7 ⟨A7, c7, rfl, hown, hb⟩
  rw [HM.out.1] at hown
  have hbk7 := own_bks hown HM.out.1.symm
  have HST7 := Lib.hid (hst7.below hb)
  have HBK7 := Lib.hid hbk7
  clear hb hst7 HST6 hown hbk7
  generalize w6.heap.size = g6 at HST7 ⊢
  rw [HM.out.1, HWB.out]
  dsimp only [errV]
  go_wp2_with fail
  have hca := rwalkB_any w7 Ab k w1.heap.size bs (by rw [HLN.out]; exact HR1.out.below HST7.out.bel) HST7.out.size (by rw [HLN.out]; exact HLL.out.2) (by rw [HLN.out]; have := HLL.out.1; omega) _ HL.out
  rw [HLN.out] at hca
  refine hca.mono ?_
  clear hca
  rintro e w8 ⟨A8, c8, rfl, hown, hb⟩
  rw [HM.out.1] at hown
  have hbk8 := own_bks hown HM.out.1.symm
  have hst8 := HST7.out.below hb
  have hsame := blocks_same w8 A7 A8 c7 c8 (l.getD []) ((HBK7.out.below hb).more hb.size) hbk8 (by rw [HM.out.1]; exact HM.out.2)
  rw [HM.out.1] at hsame
  obtain ⟨p0, p1, p2⟩ := up7_ (hst8.obj (p := g3) (.tail _ (.tail _ (.tail _ (.head _)))))
  obtain ⟨q0, q1, q2⟩ := up7_ (hst8.obj (p := g4) (.tail _ (.tail _ (.head _))))
  obtain ⟨r0, r1, r2⟩ := up7_ (hst8.obj (p := g5) (.tail _ (.head _)))
  obtain ⟨t0, t1, t2⟩ := up7_ (hst8.obj (p := g6) (.head _))
  have HST8 := Lib.hid hst8
  have HSM := Lib.hid hsame
  clear hb hst8 hsame hown hbk8 HST7 HBK7
  rw [HM.out.1, HWB.out]
  go_wp2_with fail
  refine HSM.out.mono ?_
  rintro e w9 ⟨rfl, hb⟩
  have HST9 := Lib.hid (HST8.out.below hb)
  clear hb HST8 HSM p0 p1 p2 q0 q1 q2 r0 r1 r2 t0 t1 t2
  go_wp2_with fail
  refine (code_err w9 3 (by omega) (by omega)).mono ?_
  rintro e w10 ⟨rfl, rfl⟩
  obtain ⟨b0, b1, b2⟩ := up7_ ((HST9.out.bel.block _ HLT.out).trans HN1.out)
  have HSet := Lib.hid (HS.out w9 g base 16384 c A bs xo xs xu _ HST9.out.ar HB1.out.2 (by rw [HLN.out]; exact HLL.out.1) hxo hxs HZ.out)
  go_wp2_with fail
  refine HSet.out.mono ?_
  rintro e w11 ⟨rfl, hb⟩
  have HST11 := Lib.hid (HST9.out.below hb)
  clear HSet hb HST9 b0 b1 b2
  obtain ⟨b0, b1, b2⟩ := up7_ ((HST11.out.bel.block _ HLT.out).trans HN1.out)
  dsimp only [errV]
  go_wp2_with fail
  have hca := rsetB_any w11 Ab k bs (by rw [HLN.out]; exact HST11.out.rd HR1.out) (by rw [HLN.out]; exact HLL.out.2) HA0.out (by rw [HLN.out]; have := HLL.out.1; omega) xo xs xu hxo hxs _ HZ.out
  rw [HLN.out] at hca
  refine hca.mono ?_
  clear hca
  rintro e w12 ⟨A12, c12, rfl, hr12, _, _, hb⟩
  obtain ⟨wd, hwd⟩ : ∃ wd, w12.drew = wd := ⟨_, rfl⟩
  have bd : Below w12.heap.size w12 wd := by rw [← hwd]; exact (Below.refl _ _).drew
  have hst12 := (HST11.out.below hb).below bd
  have hby := bytes_any hst12.ar (by rw [HLN.out]; have := HLL.out.1; omega) HB1.out.2
  have HBY := Lib.hid hby
  have HR12 := Lib.hid ((hr12.below bd).more bd.size)
  have HWD := Lib.hid hwd
  have HK12 := Lib.hid (HB1'.out.trans (hst12.bel.mono HB1'.out.size))
  clear hb hst12 hby hr12 HST11 b0 b1 b2 bd hwd
  dsimp only [Option.getD, Option.isSome] at HR12 ⊢
  go_wp2_with fail
  refine wp_region_tail wd.heap.size [([0, 1, 2, 5, 6], 3)] [4, 7, 8, 9, 10, 11, 12, 13, 14, 15, 16, 17, 18, 19] [20, 21, 22, 23, 24, 25] (by kernel_rfl) (by kernel_rfl) (by kernel_rfl) (fun _ _ _ _ _ h => h) ?_
  rw [HWD.out]
  have qb := conv7 HR12.out
  refine tail_cons (l := ?seg1) ?hseg1 ?_
  case hseg1 => simp only [pick, List.getElem?_toArray, List.getElem?_cons_succ, List.getElem?_cons_zero]; rfl
  repeat (go_big_quiet_step (fail))
  refine wpQuiet_nil ?_
  clear qb
  refine tail_call2 (vs := #[.pointer (some ⟨g, 0, none⟩)]) Try.call18 rfl rfl rfl (R := fun r w' => ∃ A c, r = .slice A bs.length c ∧ Rd w' w'.heap.size A bs.length bs ∧ Below wd.heap.size wd w') (HBY.out.mono ?_) ?_
  · rintro e w' ⟨A', c', rfl, ho, hb⟩
    exact ⟨_, rfl, hb, A', c', rfl, (own_facts ho).1, hb⟩
  rintro r w13 _ ⟨A13, c13, rfl, r13, b13⟩
  refine ⟨w13.heap.size, b13.size, ?_⟩
  have qa := conv7 r13
  refine tail_last (l := ?la3) (t := ?tl3) ?hla3 ?htl3 ?_
  case hla3 => simp only [pick, List.getElem?_toArray, List.getElem?_cons_succ, List.getElem?_cons_zero]; rfl
  case htl3 => simp only [pick, List.getElem?_toArray, List.getElem?_cons_succ, List.getElem?_cons_zero]; rfl
  simp only [Act.put, List.setIfInBounds_toArray, List.set_cons_zero, List.set_cons_succ]
  repeat (go_big_quiet_step (fail))
  refine wpQuiet_nil ?_
  have HK13 := Lib.hid (HK12.out.trans (b13.mono HK12.out.size))
  clear qa r13 b13 HR12 HBY HK12
  go_wp2_with fail
  refine (code_err _ 1 (by omega) (by omega)).mono ?_
  rintro e w14 ⟨rfl, rfl⟩
  go_wp2
  go_ret
  exact ⟨rfl, HK13.out⟩


set_option maxRecDepth 100000 in
set_option maxHeartbeats 4000000 in
theorem bt_1001 (HG : GetC) (HA : AheadC) (HS : SetC) (HW : WalkC) (w : World) (n : Nat) (hn : n < 18446744073709551616) (Ab : Option Addr) (k : Nat) (bs : List UInt8) (hr : Rd w w.heap.size Ab bs.length bs) (hbk : bs.length ≤ k) (hA0 : Ab = none → k = 0) (hl : bs.length ≤ 16384) (o : Int) (ho : -9223372036854775808 ≤ o ∧ o ≤ 9223372036854775807)
    (xo xs : Int) (xu : Bool) (hxo : -9223372036854775808 ≤ xo ∧ xo ≤ 9223372036854775807) (hxs : -9223372036854775808 ≤ xs ∧ xs ≤ 9223372036854775807)
    (x y : Option Bk) (l : Option (List Bk)) (hx : getB bs o = x) (hy : aheadB bs o = y) (hw : walkB bs = l) (hxb : x.isSome = true) (hyb : y.isSome = false) (hwb : l.isSome = false) (out : List UInt8) (hz : setB bs xo xs xu = some out) :
    Calls Try.prog 3 #[.int .u64 (n : Int), .slice Ab bs.length k, .int .i64 o, .agg #[.int .i64 xo, .int .i64 xs, .bool xu]] w fun e w' => e = .returned (.bool true) ∧ Below w.heap.size w w' := by
  obtain ⟨ln, hln⟩ : ∃ ln, bs.length = ln := ⟨_, rfl⟩
  obtain ⟨m, hm⟩ : ∃ m, (l.getD []).length = m := ⟨_, rfl⟩
  obtain ⟨xa, xb, xc, hxv⟩ := bkV_is x
  obtain ⟨ya, yb, yc, hyv⟩ := bkV_is y
  have hm1 : m ≤ 1000000 := by
    cases l with
    | none => simp at hm; omega
    | some l => have := walkB_len hw; simp at hm; omega
  rw [hln] at hr hbk hl ⊢
  obtain ⟨wx, hwx⟩ : ∃ wx, w.alloc (.cells #[.int .i64 xo, .int .i64 xs, .bool xu] 25) = wx := ⟨_, rfl⟩
  have hbx : Below w.heap.size w wx := by rw [← hwx]; exact (Below.refl _ _).alloc (Nat.le_refl _) _
  have hnx : wx.heap[w.heap.size]? = some (.cells #[.int .i64 xo, .int .i64 xs, .bool xu] 25 (0, 0)) := by rw [← hwx]; exact heap_alloc_new w _
  have s0 : decide ((16384 : Int) < (ln : Int)) = false := decide_eq_false (by omega)
  obtain ⟨base, hbase⟩ : ∃ base, n % 288230376151711744 * 16 = base := ⟨_, rfl⟩
  have hb1 : base % 16 = 0 := by omega
  have hb2 : base ≤ 4611686018427387904 := by omega
  have HBase := Lib.hid (fun W => lawbase_any W n hn)
  rw [hbase] at HBase
  have HR := Lib.hid ((hr.below hbx).more hbx.size)
  have HBX := Lib.hid hbx
  have HNX := Lib.hid hnx
  have HWX := Lib.hid hwx
  have HLN := Lib.hid hln
  have HB1 := Lib.hid (And.intro hb1 hb2)
  have HX := Lib.hid hx
  have HY := Lib.hid hy
  have HL := Lib.hid hw
  have HZ := Lib.hid hz
  have HM := Lib.hid (And.intro hm hm1)
  have HXV := Lib.hid (And.intro hxv hxb)
  have HYV := Lib.hid (And.intro hyv hyb)
  have HWB := Lib.hid hwb
  have HLL := Lib.hid (And.intro hl hbk)
  have HA0 := Lib.hid hA0
  have HG := Lib.hid HG
  have HA := Lib.hid HA
  have HS := Lib.hid HS
  have HW := Lib.hid HW
  have HUP := Lib.hid (up7_any HG.out HA.out HS.out HW.out)
  clear hx hy hw hz hm hm1 hxv hxb hyv hyb hwb hr hbx hnx hwx hln hbase hb1 hb2 hl hbk hA0 hn
  go_enter Try.func3, Try.ntmps3
  go_wp2_with fail
  rw [HWX.out]
  refine (HUP.out _).mono ?_
  rintro e w1 ⟨rfl, hb⟩
  have HR1 := Lib.hid ((HR.out.below hb).more hb.size)
  have HB1' := Lib.hid (HBX.out.trans (hb.mono HBX.out.size))
  have HN1 := Lib.hid ((hb.block _ (heap_lt HNX.out)).trans HNX.out)
  have HLT := Lib.hid (Nat.lt_of_lt_of_le (heap_lt HNX.out) hb.size)
  clear HUP HR HBX HNX HWX hb
  go_wp2_with fail
  refine (HBase.out w1).mono ?_
  rintro e w2 ⟨rfl, rfl⟩
  go_wp2_with fail
  have hma := arena_any w1 base 16384 Ab k bs (by rw [HLN.out]; exact HR1.out) HB1.out.1 HB1.out.2 (by omega) (by omega) (by rw [HLN.out]; exact HLL.out.1)
  rw [HLN.out] at hma
  refine hma.mono ?_
  clear hma
  rintro e w2 hmade
  obtain ⟨g, A, c, rfl, hst⟩ := St.made hmade
  have HST := Lib.hid hst
  clear hmade hst HBase
  go_wp2_with fail
  refine (HG.out w2 g base 16384 c A bs o _ HST.out.ar HB1.out.2 (by rw [HLN.out]; exact HLL.out.1) ho HX.out).mono ?_
  rintro e w3 ⟨rfl, hb⟩
  have HST3 := Lib.hid (HST.out.below hb)
  clear hb HST
  rw [HXV.out.1, HXV.out.2]
  dsimp only [errV]
  go_wp2_with fail
  have hst4 := HST3.out.alloc (.cells #[.int .i64 xa, .int .i64 xb, .bool xc] 25)
  have hca := rgetB_any _ Ab k w1.heap.size bs (by rw [HLN.out]; exact HR1.out.below hst4.bel) (by rw [HLN.out]; exact HLL.out.2) (by rw [HLN.out]; have := HLL.out.1; omega) o ho _ HX.out
  rw [HLN.out] at hca
  refine hca.mono ?_
  clear hca
  rintro e w4 ⟨rfl, hb⟩
  have HST4 := Lib.hid (hst4.below hb)
  clear hb hst4 HST3
  generalize w3.heap.size = g3 at HST4 ⊢
  rw [HXV.out.1, HXV.out.2]
  go_wp2_with fail
  have hst5 := HST4.out.alloc (.cells #[.int .i64 xa, .int .i64 xb, .bool xc] 25)
  refine (HA.out _ g base 16384 c A bs o _ hst5.ar HB1.out.2 (by rw [HLN.out]; exact HLL.out.1) ho HY.out).mono ?_
  rintro e w5 ⟨rfl, hb⟩
  have HST5 := Lib.hid (hst5.below hb)
  clear hb hst5 HST4
  generalize w4.heap.size = g4 at HST5 ⊢
  rw [HYV.out.1, HYV.out.2]
  dsimp only [errV]
  go_wp2_with fail
  have hst6 := HST5.out.alloc (.cells #[.int .i64 ya, .int .i64 yb, .bool yc] 25)
  have hca := raheadB_any _ Ab k w1.heap.size bs (by rw [HLN.out]; exact HR1.out.below hst6.bel) (by rw [HLN.out]; exact HLL.out.2) (by rw [HLN.out]; have := HLL.out.1; omega) o ho _ HY.out
  rw [HLN.out] at hca
  refine hca.mono ?_
  clear hca
  rintro e w6 ⟨rfl, hb⟩
  have HST6 := Lib.hid (hst6.below hb)
  clear hb hst6 HST5
  generalize w5.heap.size = g5 at HST6 ⊢
  rw [HYV.out.1, HYV.out.2]
  go_wp2_with fail
  have hst7 := HST6.out.alloc (.cells #[.int .i64 ya, .int .i64 yb, .bool yc] 25)
  refine (HW.out _ g base 16384 c A bs _ hst7.ar HB1.out.2 (by rw [HLN.out]; exact HLL.out.1) HL.out).mono ?_
  rintro e w7 ⟨A7, c7, rfl, hown, hb⟩
  rw [HM.out.1] at hown
  have hbk7 := own_bks hown HM.out.1.symm
  have HST7 := Lib.hid (hst7.below hb)
  have HBK7 := Lib.hid hbk7
  clear hb hst7 HST6 hown hbk7
  generalize w6.heap.size = g6 at HST7 ⊢
  rw [HM.out.1, HWB.out]
  dsimp only [errV]
  go_wp2_with fail
  have hca := rwalkB_any w7 Ab k w1.heap.size bs (by rw [HLN.out]; exact HR1.out.below HST7.out.bel) HST7.out.size (by rw [HLN.out]; exact HLL.out.2) (by rw [HLN.out]; have := HLL.out.1; omega) _ HL.out
  rw [HLN.out] at hca
  refine hca.mono ?_
  clear hca
  rintro e w8 ⟨A8, c8, rfl, hown, hb⟩
  rw [HM.out.1] at hown
  have hbk8 := own_bks hown HM.out.1.symm
  have hst8 := HST7.out.below hb
  have hsame := blocks_same w8 A7 A8 c7 c8 (l.getD []) ((HBK7.out.below hb).more hb.size) hbk8 (by rw [HM.out.1]; exact HM.out.2)
  rw [HM.out.1] at hsame
  obtain ⟨p0, p1, p2⟩ := up7_ (hst8.obj (p := g3) (.tail _ (.tail _ (.tail _ (.head _)))))
  obtain ⟨q0, q1, q2⟩ := up7_ (hst8.obj (p := g4) (.tail _ (.tail _ (.head _))))
  obtain ⟨r0, r1, r2⟩ := up7_ (hst8.obj (p := g5) (.tail _ (.head _)))
  obtain ⟨t0, t1, t2⟩ := up7_ (hst8.obj (p := g6) (.head _))
  have HST8 := Lib.hid hst8
  have HSM := Lib.hid hsame
  clear hb hst8 hsame hown hbk8 HST7 HBK7
  rw [HM.out.1, HWB.out]
  go_wp2_with fail
  refine HSM.out.mono ?_
  rintro e w9 ⟨rfl, hb⟩
  have HST9 := Lib.hid (HST8.out.below hb)
  clear hb HST8 HSM p0 p1 p2 q0 q1 q2 r0 r1 r2 t0 t1 t2
  go_wp2_with fail
  refine (code_err w9 3 (by omega) (by omega)).mono ?_
  rintro e w10 ⟨rfl, rfl⟩
  go_wp2_with fail
  refine (code_err w9 3 (by omega) (by omega)).mono ?_
  rintro e w10 ⟨rfl, rfl⟩
  obtain ⟨b0, b1, b2⟩ := up7_ ((HST9.out.bel.block _ HLT.out).trans HN1.out)
  have HSet := Lib.hid (HS.out w9 g base 16384 c A bs xo xs xu _ HST9.out.ar HB1.out.2 (by rw [HLN.out]; exact HLL.out.1) hxo hxs HZ.out)
  go_wp2_with fail
  refine HSet.out.mono ?_
  rintro e w11 ⟨rfl, hbe⟩
  obtain ⟨A9, c9, hst⟩ := HST9.out.became hbe
  have HST11 := Lib.hid hst
  clear HSet hbe hst HST9 b0 b1 b2
  obtain ⟨b0, b1, b2⟩ := up7_ ((HST11.out.bel.block _ HLT.out).trans HN1.out)
  dsimp only [errV]
  go_wp2_with fail
  have hca := rsetB_any w11 Ab k bs (by rw [HLN.out]; exact HST11.out.rd HR1.out) (by rw [HLN.out]; exact HLL.out.2) HA0.out (by rw [HLN.out]; have := HLL.out.1; omega) xo xs xu hxo hxs _ HZ.out
  rw [HLN.out] at hca
  refine hca.mono ?_
  clear hca
  rintro e w12 ⟨A12, c12, rfl, hr12, _, _, hb⟩
  obtain ⟨wd, hwd⟩ : ∃ wd, w12.drew = wd := ⟨_, rfl⟩
  have bd : Below w12.heap.size w12 wd := by rw [← hwd]; exact (Below.refl _ _).drew
  have hst12 := (HST11.out.below hb).below bd
  have hby := bytes_any hst12.ar (by rw [setB_length HZ.out, HLN.out]; have := HLL.out.1; omega) HB1.out.2
  have HBY := Lib.hid hby
  have HR12 := Lib.hid ((hr12.below bd).more bd.size)
  have HWD := Lib.hid hwd
  have HK12 := Lib.hid (HB1'.out.trans (hst12.bel.mono HB1'.out.size))
  clear hb hst12 hby hr12 HST11 b0 b1 b2 bd hwd
  dsimp only [Option.getD, Option.isSome] at HR12 ⊢
  go_wp2_with fail
  refine wp_region_tail wd.heap.size [([0, 1, 2, 5, 6], 3)] [4, 7, 8, 9, 10, 11, 12, 13, 14, 15, 16, 17, 18, 19] [20, 21, 22, 23, 24, 25] (by kernel_rfl) (by kernel_rfl) (by kernel_rfl) (fun _ _ _ _ _ h => h) ?_
  rw [HWD.out]
  have qb := conv7 HR12.out
  refine tail_cons (l := ?seg1) ?hseg1 ?_
  case hseg1 => simp only [pick, List.getElem?_toArray, List.getElem?_cons_succ, List.getElem?_cons_zero]; rfl
  repeat (go_big_quiet_step (fail))
  refine wpQuiet_nil ?_
  clear qb
  refine tail_call2 (vs := #[.pointer (some ⟨g, 0, none⟩)]) Try.call18 rfl rfl rfl (R := fun r w' => ∃ A c, r = .slice A out.length c ∧ Rd w' w'.heap.size A out.length out ∧ Below wd.heap.size wd w') (HBY.out.mono ?_) ?_
  · rintro e w' ⟨A', c', rfl, ho, hb⟩
    exact ⟨_, rfl, hb, A', c', rfl, (own_facts ho).1, hb⟩
  rintro r w13 _ ⟨A13, c13, rfl, r13, b13⟩
  refine ⟨w13.heap.size, b13.size, ?_⟩
  have qa := conv7 r13
  refine tail_last (l := ?la3) (t := ?tl3) ?hla3 ?htl3 ?_
  case hla3 => simp only [pick, List.getElem?_toArray, List.getElem?_cons_succ, List.getElem?_cons_zero]; rfl
  case htl3 => simp only [pick, List.getElem?_toArray, List.getElem?_cons_succ, List.getElem?_cons_zero]; rfl
  simp only [Act.put, List.setIfInBounds_toArray, List.set_cons_zero, List.set_cons_succ]
  repeat (go_big_quiet_step (fail))
  refine wpQuiet_nil ?_
  have HK13 := Lib.hid (HK12.out.trans (b13.mono HK12.out.size))
  clear qa r13 b13 HR12 HBY HK12
  go_wp2
  go_ret
  exact ⟨rfl, HK13.out⟩


set_option maxRecDepth 100000 in
set_option maxHeartbeats 4000000 in
theorem bt_1000 (HG : GetC) (HA : AheadC) (HS : SetC) (HW : WalkC) (w : World) (n : Nat) (hn : n < 18446744073709551616) (Ab : Option Addr) (k : Nat) (bs : List UInt8) (hr : Rd w w.heap.size Ab bs.length bs) (hbk : bs.length ≤ k) (hA0 : Ab = none → k = 0) (hl : bs.length ≤ 16384) (o : Int) (ho : -9223372036854775808 ≤ o ∧ o ≤ 9223372036854775807)
    (xo xs : Int) (xu : Bool) (hxo : -9223372036854775808 ≤ xo ∧ xo ≤ 9223372036854775807) (hxs : -9223372036854775808 ≤ xs ∧ xs ≤ 9223372036854775807)
    (x y : Option Bk) (l : Option (List Bk)) (hx : getB bs o = x) (hy : aheadB bs o = y) (hw : walkB bs = l) (hxb : x.isSome = true) (hyb : y.isSome = false) (hwb : l.isSome = false) (hz : setB bs xo xs xu = none) :
    Calls Try.prog 3 #[.int .u64 (n : Int), .slice Ab bs.length k, .int .i64 o, .agg #[.int .i64 xo, .int .i64 xs, .bool xu]] w fun e w' => e = .returned (.bool true) ∧ Below w.heap.size w w' := by
  obtain ⟨ln, hln⟩ : ∃ ln, bs.length = ln := ⟨_, rfl⟩
  obtain ⟨m, hm⟩ : ∃ m, (l.getD []).length = m := ⟨_, rfl⟩
  obtain ⟨xa, xb, xc, hxv⟩ := bkV_is x
  obtain ⟨ya, yb, yc, hyv⟩ := bkV_is y
  have hm1 : m ≤ 1000000 := by
    cases l with
    | none => simp at hm; omega
    | some l => have := walkB_len hw; simp at hm; omega
  rw [hln] at hr hbk hl ⊢
  obtain ⟨wx, hwx⟩ : ∃ wx, w.alloc (.cells #[.int .i64 xo, .int .i64 xs, .bool xu] 25) = wx := ⟨_, rfl⟩
  have hbx : Below w.heap.size w wx := by rw [← hwx]; exact (Below.refl _ _).alloc (Nat.le_refl _) _
  have hnx : wx.heap[w.heap.size]? = some (.cells #[.int .i64 xo, .int .i64 xs, .bool xu] 25 (0, 0)) := by rw [← hwx]; exact heap_alloc_new w _
  have s0 : decide ((16384 : Int) < (ln : Int)) = false := decide_eq_false (by omega)
  obtain ⟨base, hbase⟩ : ∃ base, n % 288230376151711744 * 16 = base := ⟨_, rfl⟩
  have hb1 : base % 16 = 0 := by omega
  have hb2 : base ≤ 4611686018427387904 := by omega
  have HBase := Lib.hid (fun W => lawbase_any W n hn)
  rw [hbase] at HBase
  have HR := Lib.hid ((hr.below hbx).more hbx.size)
  have HBX := Lib.hid hbx
  have HNX := Lib.hid hnx
  have HWX := Lib.hid hwx
  have HLN := Lib.hid hln
  have HB1 := Lib.hid (And.intro hb1 hb2)
  have HX := Lib.hid hx
  have HY := Lib.hid hy
  have HL := Lib.hid hw
  have HZ := Lib.hid hz
  have HM := Lib.hid (And.intro hm hm1)
  have HXV := Lib.hid (And.intro hxv hxb)
  have HYV := Lib.hid (And.intro hyv hyb)
  have HWB := Lib.hid hwb
  have HLL := Lib.hid (And.intro hl hbk)
  have HA0 := Lib.hid hA0
  have HG := Lib.hid HG
  have HA := Lib.hid HA
  have HS := Lib.hid HS
  have HW := Lib.hid HW
  have HUP := Lib.hid (up7_any HG.out HA.out HS.out HW.out)
  clear hx hy hw hz hm hm1 hxv hxb hyv hyb hwb hr hbx hnx hwx hln hbase hb1 hb2 hl hbk hA0 hn
  go_enter Try.func3, Try.ntmps3
  go_wp2_with fail
  rw [HWX.out]
  refine (HUP.out _).mono ?_
  rintro e w1 ⟨rfl, hb⟩
  have HR1 := Lib.hid ((HR.out.below hb).more hb.size)
  have HB1' := Lib.hid (HBX.out.trans (hb.mono HBX.out.size))
  have HN1 := Lib.hid ((hb.block _ (heap_lt HNX.out)).trans HNX.out)
  have HLT := Lib.hid (Nat.lt_of_lt_of_le (heap_lt HNX.out) hb.size)
  clear HUP HR HBX HNX HWX hb
  go_wp2_with fail
  refine (HBase.out w1).mono ?_
  rintro e w2 ⟨rfl, rfl⟩
  go_wp2_with fail
  have hma := arena_any w1 base 16384 Ab k bs (by rw [HLN.out]; exact HR1.out) HB1.out.1 HB1.out.2 (by omega) (by omega) (by rw [HLN.out]; exact HLL.out.1)
  rw [HLN.out] at hma
  refine hma.mono ?_
  clear hma
  rintro e w2 hmade
  obtain ⟨g, A, c, rfl, hst⟩ := St.made hmade
  have HST := Lib.hid hst
  clear hmade hst HBase
  go_wp2_with fail
  refine (HG.out w2 g base 16384 c A bs o _ HST.out.ar HB1.out.2 (by rw [HLN.out]; exact HLL.out.1) ho HX.out).mono ?_
  rintro e w3 ⟨rfl, hb⟩
  have HST3 := Lib.hid (HST.out.below hb)
  clear hb HST
  rw [HXV.out.1, HXV.out.2]
  dsimp only [errV]
  go_wp2_with fail
  have hst4 := HST3.out.alloc (.cells #[.int .i64 xa, .int .i64 xb, .bool xc] 25)
  have hca := rgetB_any _ Ab k w1.heap.size bs (by rw [HLN.out]; exact HR1.out.below hst4.bel) (by rw [HLN.out]; exact HLL.out.2) (by rw [HLN.out]; have := HLL.out.1; omega) o ho _ HX.out
  rw [HLN.out] at hca
  refine hca.mono ?_
  clear hca
  rintro e w4 ⟨rfl, hb⟩
  have HST4 := Lib.hid (hst4.below hb)
  clear hb hst4 HST3
  generalize w3.heap.size = g3 at HST4 ⊢
  rw [HXV.out.1, HXV.out.2]
  go_wp2_with fail
  have hst5 := HST4.out.alloc (.cells #[.int .i64 xa, .int .i64 xb, .bool xc] 25)
  refine (HA.out _ g base 16384 c A bs o _ hst5.ar HB1.out.2 (by rw [HLN.out]; exact HLL.out.1) ho HY.out).mono ?_
  rintro e w5 ⟨rfl, hb⟩
  have HST5 := Lib.hid (hst5.below hb)
  clear hb hst5 HST4
  generalize w4.heap.size = g4 at HST5 ⊢
  rw [HYV.out.1, HYV.out.2]
  dsimp only [errV]
  go_wp2_with fail
  have hst6 := HST5.out.alloc (.cells #[.int .i64 ya, .int .i64 yb, .bool yc] 25)
  have hca := raheadB_any _ Ab k w1.heap.size bs (by rw [HLN.out]; exact HR1.out.below hst6.bel) (by rw [HLN.out]; exact HLL.out.2) (by rw [HLN.out]; have := HLL.out.1; omega) o ho _ HY.out
  rw [HLN.out] at hca
  refine hca.mono ?_
  clear hca
  rintro e w6 ⟨rfl, hb⟩
  have HST6 := Lib.hid (hst6.below hb)
  clear hb hst6 HST5
  generalize w5.heap.size = g5 at HST6 ⊢
  rw [HYV.out.1, HYV.out.2]
  go_wp2_with fail
  have hst7 := HST6.out.alloc (.cells #[.int .i64 ya, .int .i64 yb, .bool yc] 25)
  refine (HW.out _ g base 16384 c A bs _ hst7.ar HB1.out.2 (by rw [HLN.out]; exact HLL.out.1) HL.out).mono ?_
  rintro e w7 ⟨A7, c7, rfl, hown, hb⟩
  rw [HM.out.1] at hown
  have hbk7 := own_bks hown HM.out.1.symm
  have HST7 := Lib.hid (hst7.below hb)
  have HBK7 := Lib.hid hbk7
  clear hb hst7 HST6 hown hbk7
  generalize w6.heap.size = g6 at HST7 ⊢
  rw [HM.out.1, HWB.out]
  dsimp only [errV]
  go_wp2_with fail
  have hca := rwalkB_any w7 Ab k w1.heap.size bs (by rw [HLN.out]; exact HR1.out.below HST7.out.bel) HST7.out.size (by rw [HLN.out]; exact HLL.out.2) (by rw [HLN.out]; have := HLL.out.1; omega) _ HL.out
  rw [HLN.out] at hca
  refine hca.mono ?_
  clear hca
  rintro e w8 ⟨A8, c8, rfl, hown, hb⟩
  rw [HM.out.1] at hown
  have hbk8 := own_bks hown HM.out.1.symm
  have hst8 := HST7.out.below hb
  have hsame := blocks_same w8 A7 A8 c7 c8 (l.getD []) ((HBK7.out.below hb).more hb.size) hbk8 (by rw [HM.out.1]; exact HM.out.2)
  rw [HM.out.1] at hsame
  obtain ⟨p0, p1, p2⟩ := up7_ (hst8.obj (p := g3) (.tail _ (.tail _ (.tail _ (.head _)))))
  obtain ⟨q0, q1, q2⟩ := up7_ (hst8.obj (p := g4) (.tail _ (.tail _ (.head _))))
  obtain ⟨r0, r1, r2⟩ := up7_ (hst8.obj (p := g5) (.tail _ (.head _)))
  obtain ⟨t0, t1, t2⟩ := up7_ (hst8.obj (p := g6) (.head _))
  have HST8 := Lib.hid hst8
  have HSM := Lib.hid hsame
  clear hb hst8 hsame hown hbk8 HST7 HBK7
  rw [HM.out.1, HWB.out]
  go_wp2_with fail
  refine HSM.out.mono ?_
  rintro e w9 ⟨rfl, hb⟩
  have HST9 := Lib.hid (HST8.out.below hb)
  clear hb HST8 HSM p0 p1 p2 q0 q1 q2 r0 r1 r2 t0 t1 t2
  go_wp2_with fail
  refine (code_err w9 3 (by omega) (by omega)).mono ?_
  rintro e w10 ⟨rfl, rfl⟩
  go_wp2_with fail
  refine (code_err w9 3 (by omega) (by omega)).mono ?_
  rintro e w10 ⟨rfl, rfl⟩
  obtain ⟨b0, b1, b2⟩ := up7_ ((HST9.out.bel.block _ HLT.out).trans HN1.out)
  have HSet := Lib.hid (HS.out w9 g base 16384 c A bs xo xs xu _ HST9.out.ar HB1.out.2 (by rw [HLN.out]; exact HLL.out.1) hxo hxs HZ.out)
  go_wp2_with fail
  refine HSet.out.mono ?_
  rintro e w11 ⟨rfl, hb⟩
  have HST11 := Lib.hid (HST9.out.below hb)
  clear HSet hb HST9 b0 b1 b2
  obtain ⟨b0, b1, b2⟩ := up7_ ((HST11.out.bel.block _ HLT.out).trans HN1.out)
  dsimp only [errV]
  go_wp2_with fail
  have hca := rsetB_any w11 Ab k bs (by rw [HLN.out]; exact HST11.out.rd HR1.out) (by rw [HLN.out]; exact HLL.out.2) HA0.out (by rw [HLN.out]; have := HLL.out.1; omega) xo xs xu hxo hxs _ HZ.out
  rw [HLN.out] at hca
  refine hca.mono ?_
  clear hca
  rintro e w12 ⟨A12, c12, rfl, hr12, _, _, hb⟩
  obtain ⟨wd, hwd⟩ : ∃ wd, w12.drew = wd := ⟨_, rfl⟩
  have bd : Below w12.heap.size w12 wd := by rw [← hwd]; exact (Below.refl _ _).drew
  have hst12 := (HST11.out.below hb).below bd
  have hby := bytes_any hst12.ar (by rw [HLN.out]; have := HLL.out.1; omega) HB1.out.2
  have HBY := Lib.hid hby
  have HR12 := Lib.hid ((hr12.below bd).more bd.size)
  have HWD := Lib.hid hwd
  have HK12 := Lib.hid (HB1'.out.trans (hst12.bel.mono HB1'.out.size))
  clear hb hst12 hby hr12 HST11 b0 b1 b2 bd hwd
  dsimp only [Option.getD, Option.isSome] at HR12 ⊢
  go_wp2_with fail
  refine wp_region_tail wd.heap.size [([0, 1, 2, 5, 6], 3)] [4, 7, 8, 9, 10, 11, 12, 13, 14, 15, 16, 17, 18, 19] [20, 21, 22, 23, 24, 25] (by kernel_rfl) (by kernel_rfl) (by kernel_rfl) (fun _ _ _ _ _ h => h) ?_
  rw [HWD.out]
  have qb := conv7 HR12.out
  refine tail_cons (l := ?seg1) ?hseg1 ?_
  case hseg1 => simp only [pick, List.getElem?_toArray, List.getElem?_cons_succ, List.getElem?_cons_zero]; rfl
  repeat (go_big_quiet_step (fail))
  refine wpQuiet_nil ?_
  clear qb
  refine tail_call2 (vs := #[.pointer (some ⟨g, 0, none⟩)]) Try.call18 rfl rfl rfl (R := fun r w' => ∃ A c, r = .slice A bs.length c ∧ Rd w' w'.heap.size A bs.length bs ∧ Below wd.heap.size wd w') (HBY.out.mono ?_) ?_
  · rintro e w' ⟨A', c', rfl, ho, hb⟩
    exact ⟨_, rfl, hb, A', c', rfl, (own_facts ho).1, hb⟩
  rintro r w13 _ ⟨A13, c13, rfl, r13, b13⟩
  refine ⟨w13.heap.size, b13.size, ?_⟩
  have qa := conv7 r13
  refine tail_last (l := ?la3) (t := ?tl3) ?hla3 ?htl3 ?_
  case hla3 => simp only [pick, List.getElem?_toArray, List.getElem?_cons_succ, List.getElem?_cons_zero]; rfl
  case htl3 => simp only [pick, List.getElem?_toArray, List.getElem?_cons_succ, List.getElem?_cons_zero]; rfl
  simp only [Act.put, List.setIfInBounds_toArray, List.set_cons_zero, List.set_cons_succ]
  repeat (go_big_quiet_step (fail))
  refine wpQuiet_nil ?_
  have HK13 := Lib.hid (HK12.out.trans (b13.mono HK12.out.size))
  clear qa r13 b13 HR12 HBY HK12
  go_wp2_with fail
  refine (code_err _ 1 (by omega) (by omega)).mono ?_
  rintro e w14 ⟨rfl, rfl⟩
  go_wp2
  go_ret
  exact ⟨rfl, HK13.out⟩


end Go.Proofs.Ytodbakpjibcmiaa
