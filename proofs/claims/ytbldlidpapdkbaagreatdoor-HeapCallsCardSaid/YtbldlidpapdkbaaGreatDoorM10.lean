/- Texts of mine, joined: Law14a, Law14b, Law14c, Law14h. -/
import Derived.Great.BuildSlice
import Derived.Test.YtbldlidpapdkbaaGreatDoorM9

/- The head of layer 14's laws. -/
namespace Go.Proofs.YtbldlidpapdkbaaGreatDoor
open Go.RowKit

section
variable {H : Hp}
theorem get_cap {n : Nat} {x : UInt8} : (H.get n x).2.cap = H.cap := by
  unfold Hp.get
  split
  · rfl
  · split
    · rfl
    · dsimp only
      split
      · exact take_cap
      · exact take_cap
theorem calloc_cap {n m : Nat} : (H.calloc n m).2.cap = H.cap := by
  unfold Hp.calloc
  split
  · rfl
  · exact get_cap
theorem realloc_cap {p n : Nat} : (H.realloc p n).2.cap = H.cap := by
  unfold Hp.realloc
  split
  · rfl
  · split
    · rfl
    · split
      · dsimp only
        split
        · exact resize_cap
        · exact resize_cap
      · exact resize_cap
theorem freeP_cap {p : Nat} : (H.freeP p).2.cap = H.cap := by
  unfold Hp.freeP
  split
  · rfl
  · exact give_cap
theorem writeP_cap {p a : Nat} {b : List UInt8} : (H.writeP p a b).2.cap = H.cap := by
  unfold Hp.writeP
  split
  · rfl
  · split <;> rfl
end

/-- A heap above a bound. -/
structure Hv (B : Nat) (w : World) (q g base cap : Nat) (A : Option Addr) (c : Nat) (bs : List UInt8) (H : Hp) : Prop where
  ph : PH w q g base cap A c bs H
  qB : B ≤ q
  gB : B ≤ g
  aB : ∀ a, A = some a → B ≤ a.block
section
variable {B : Nat} {w w' : World} {q g base cap c : Nat} {A : Option Addr} {bs : List UInt8} {H H' : Hp}
theorem Hv.fB (h : Hv B w q g base cap A c bs H) {k : Nat} (hk : foot g A k) : B ≤ k := by
  rcases hk with rfl | ⟨a, e, rfl⟩
  · exact h.gB
  · exact h.aB a e
theorem Hv.below (h : Hv B w q g base cap A c bs H) (hb : Below w.heap.size w w') : Hv B w' q g base cap A c bs H := ⟨h.ph.below hb, h.qB, h.gB, h.aB⟩
theorem Hv.turn (h : Hv B w q g base cap A c bs H) (hB : B ≤ w.heap.size) (ht : PTurn g base cap A H' w w') (hc : H'.cap = cap) : ∃ A' c' bs', Hv B w' q g base cap A' c' bs' H' ∧ Tch (foot g A) w w' ∧ (A' = A ∨ ∀ a, A' = some a → w.heap.size ≤ a.block) := by
  obtain ⟨A', c', out, h1, h2, h3⟩ := ht.ph h.ph hc
  refine ⟨A', c', out, ⟨h1, h.qB, h.gB, fun a e => ?_⟩, h2, h3⟩
  rcases h3 with h3 | h3
  · exact h.aB a (h3 ▸ e)
  · exact Nat.le_trans hB (h3 a e)
theorem Hv.low (h : Hv B w q g base cap A c bs H) (hB : B ≤ w.heap.size) (ht : Tch (foot g A) w w') : Below B w w' := ht.below (fun _ hk => h.fB hk) hB
theorem PMade.hv {e : Ending} (h : PMade base cap H w e w') : ∃ q g A c bs, e = .returned (.tuple #[.pointer (some ⟨q, 0, none⟩), .nilIface]) ∧ Hv w.heap.size w' q g base cap A c bs H ∧ Below w.heap.size w w' := by
  obtain ⟨q, g, A, c, bs, he, hp, hb, h1, h2, h3⟩ := h
  exact ⟨q, g, A, c, bs, he, ⟨hp, h1, h2, h3⟩, hb⟩
theorem Hv.less {B' : Nat} (h : Hv B w q g base cap A c bs H) (hB : B' ≤ B) : Hv B' w q g base cap A c bs H := ⟨h.ph, Nat.le_trans hB h.qB, Nat.le_trans hB h.gB, fun a e => Nat.le_trans hB (h.aB a e)⟩

set_option maxRecDepth 100000 in
set_option maxHeartbeats 400000 in
/-- Free of what is no handle changes nothing. -/
theorem hfree_bad (h : PH w q g base cap A c bs H) (p : Nat) (hp : p < 18446744073709551616) (hh : H.handleB p = none) :
    Calls Tryz.prog 25 #[.pointer (some ⟨q, 0, none⟩), .int .u64 (p : Int)] w fun e w' => e = .returned (.iface 68 (.int .i64 4)) ∧ Below w.heap.size w w' := by
  have hF := pfind_any h p hp
  rw [hh] at hF
  dsimp only [bkV, errV, Option.map, Option.isSome] at hF
  have HF := Lib.hid hF
  clear h hF hh
  go_enter Tryz.func25, Tryz.ntmps25
  go_wp2_with fail
  refine HF.out.mono ?_
  rintro e w2 ⟨rfl, hb⟩
  have HT := Lib.hid (hb.alloc hb.size (.cells #[.int .i64 0, .int .i64 0, .bool false] 82))
  clear hb HF
  go_wp2
  go_ret
  exact ⟨rfl, HT.out⟩
end
theorem run_one_u8 (w : World) (x : UInt8) : (Instr.buildSlice 36 1 #[(0, .int .u8 (x.toNat : Int))]).run Tryz.prog w = .ok (.slice (some ⟨w.heap.size, 0, none⟩) 1 1) (w.alloc (.cells (rowB [x]) 5)) := by
  obtain ⟨i0, hi, hz0, hz1, hz2⟩ := info_parts u8_inf
  refine run_buildSlice w 36 5 1 _ _ i0 _ Tryz.underlying36 hi hz0 (by omega) (by omega) ?_
  rw [hz1]
  have e : Array.range (1 * 1) = #[0] := by decide
  rw [e]
  simp [Instr.fill, Value.cells, rowB, bv]
theorem conv_Bx {w : World} {B n : Nat} {A : Option Addr} {bs : List UInt8} (h : Rd w B A n bs) (c : Nat) (x : LaterB B w) : (convert 36 9 (.slice A n c)).run Tryz.prog x.val = .ok (.string (strB bs)) x.val := conv_rd (h.below x.ext)
theorem Rd.ownR {w : World} {base n c : Nat} {A : Option Addr} {bs : List UInt8} (h : w.ownsRow base 5 1 (.slice A n c) n (bs.map bv)) : Rd w w.heap.size A n bs := by
  obtain ⟨A', c', e, _, hr⟩ := own_any h
  injection e with e1
  subst e1
  exact hr

def up14A : Hp := ((hpZero 1024).get 5 165).2
def up14B : Hp := (up14A.calloc 3 4).2
set_option maxRecDepth 100000 in
set_option maxHeartbeats 4000000 in
theorem up14_any (w : World) :
    Calls Tryz.prog 5 #[] w fun e w' => e = .returned (.bool true) ∧ Below w.heap.size w w' := by
  have t1 : ((hpZero 1024).get 5 165).1 = (192, 0) := by kernel_rfl
  have t2 : up14A.usableP 192 = (16, 0) := by kernel_rfl
  obtain ⟨y, hy⟩ : ∃ y : List UInt8, [165] = y := ⟨_, rfl⟩
  have t3 : up14A.readP 192 0 1 = (y, 0) := by rw [← hy]; kernel_rfl
  have hyl : y.length = 1 := by rw [← hy]; rfl
  have HBS : Hid (∀ W : World, (Instr.buildSlice 36 1 #[(0, .int .u8 165)]).run Tryz.prog W = .ok (.slice (some ⟨W.heap.size, 0, none⟩) 1 1) (W.alloc (.cells (rowB y) 5))) := fun W => by rw [← hy]; exact run_one_u8 W 165
  have t4 : (up14A.calloc 3 4).1 = (224, 0) := by kernel_rfl
  obtain ⟨z, hz⟩ : ∃ z, List.replicate 16 (0 : UInt8) = z := ⟨_, rfl⟩
  have t5 : up14B.readP 224 0 16 = (z, 0) := by rw [← hz]; kernel_rfl
  have hzl : z.length = 16 := by rw [← hz]; exact List.length_replicate
  have t6 : up14B.handleB 193 = none := by kernel_rfl
  have c1 : up14A.cap = 1024 := get_cap
  have c2 : up14B.cap = 1024 := calloc_cap.trans c1
  have HMK : ∀ W : World, (Instr.makeSlice 36 (.int .i64 16) (.int .i64 16)).run Tryz.prog W = .ok (.slice (some ⟨W.heap.size, 0, none⟩) 16 16) (W.alloc (.cells (rowB z) 5)) := run_mk0 16 (by omega) z hz
  have HMK := Lib.hid HMK
  have T1 := Lib.hid t1
  have T2 := Lib.hid t2
  have T3 := Lib.hid t3
  have T4 := Lib.hid t4
  have T5 := Lib.hid t5
  have T6 := Lib.hid t6
  have C1 := Lib.hid c1
  have C2 := Lib.hid c2
  have ZL := Lib.hid hzl
  have YL := Lib.hid hyl
  have HN := Lib.hid (hnew_good w 64 1024 (by omega) (by omega) (by omega) (by omega))
  clear hz t1 t2 t3 t4 t5 t6 c1 c2 hzl hy hyl
  go_enter Tryz.func5, Tryz.ntmps5
  go_wp2_with fail
  refine HN.out.mono ?_
  intro e w1 hm
  obtain ⟨q, g, A, c, bs, rfl, hv, hb⟩ := hm.hv
  have HB1 := Lib.hid hb
  have HV1 := Lib.hid hv
  clear hm hb hv HN
  go_wp2_with fail
  refine (hmalloc_any HV1.out.ph 5 (by omega)).mono ?_
  rintro e w2 ⟨rfl, ht⟩
  obtain ⟨A2, cc2, bs2, hv2, tc2, _⟩ := HV1.out.turn HB1.out.size ht C1.out
  have HB2 := Lib.hid (HB1.out.trans (HV1.out.low HB1.out.size tc2))
  have HV2 : Hid (Hv w.heap.size w2 q g 64 1024 A2 cc2 bs2 up14A) := hv2
  clear ht hv2 tc2 HV1 HB1
  rw [T1.out]
  dsimp only [errN_0]
  go_wp2_with fail
  refine (husablep_any HV2.out.ph 192 (by omega)).mono ?_
  rintro e w3 ⟨rfl, hb3⟩
  have HV3 := Lib.hid (HV2.out.below hb3)
  have HB3 := Lib.hid (HB2.out.trans (hb3.mono HB2.out.size))
  clear hb3 HV2 HB2
  rw [T2.out]
  dsimp only [errN_0]
  go_wp2_with fail
  refine (hread_any HV3.out.ph 192 0 1 (by omega) (by omega) (by omega)).mono ?_
  rintro e w4 ⟨A4, c4, rfl, ho4, hb4⟩
  rw [T3.out] at ho4 ⊢
  dsimp only at ho4 ⊢
  rw [YL.out] at ho4 ⊢
  have HR4 := Lib.hid (Rd.ownR ho4)
  have HV4 := Lib.hid (HV3.out.below hb4)
  have HB4 := Lib.hid (HB3.out.trans (hb4.mono HB3.out.size))
  have HO4 := Lib.hid ho4
  have HS4 := Lib.hid HV3.out.ph.ar
  clear ho4 hb4 HB3
  dsimp only [errN_0]
  go_wp2_with fail
  refine (hcalloc_prog HV4.out.ph 3 4 (by omega) (by omega)).mono ?_
  rintro e w5 ⟨rfl, ht⟩
  obtain ⟨A5, c5, bs5, hv5, tc5, _⟩ := HV4.out.turn HB4.out.size ht (calloc_cap.trans C1.out)
  have HV5 : Hid (Hv w.heap.size w5 q g 64 1024 A5 c5 bs5 up14B) := hv5
  have HB5 := Lib.hid (HB4.out.trans (HV4.out.low HB4.out.size tc5))
  have HR5 := Lib.hid (HR4.out.tch tc5 (fun a e hk => by
    have h1 := (HO4.out.lt a.block (by rw [e]; rfl)).1
    have h2 := HV3.out.ph.ar.foot_lt hk
    omega))
  clear ht hv5 tc5 HV4 HB4 HR4 HO4 HS4 HV3
  rw [T4.out]
  dsimp only [errN_0]
  go_wp2_with fail
  refine (hread_any HV5.out.ph 224 0 16 (by omega) (by omega) (by omega)).mono ?_
  rintro e w6 ⟨A6, c6, rfl, ho6, hb6⟩
  rw [T5.out] at ho6 ⊢
  dsimp only at ho6 ⊢
  rw [ZL.out] at ho6 ⊢
  obtain ⟨wd, hwd⟩ : ∃ wd, w6.drew = wd := ⟨_, rfl⟩
  have hbd : Below w5.heap.size w5 wd := by rw [← hwd]; exact hb6.drew
  have r6 : Rd wd wd.heap.size A6 16 z := by rw [← hwd]; exact (Rd.ownR ho6).drew
  have r5 := (HR5.out.below hbd).more hbd.size
  have HR6 := Lib.hid r6
  have HV6 := Lib.hid (HV5.out.below hbd)
  have HB6 := Lib.hid (HB5.out.trans (hbd.mono HB5.out.size))
  have HWD := Lib.hid hwd
  have q1 := conv_Bx r5 c4
  have q2 := conv_Bx r6 c6
  clear ho6 hb6 hbd r6 r5 hwd HV5 HB5 HR5
  dsimp only [errN_0]
  go_wp2_with fail
  refine wp_region_tail wd.heap.size [([0, 1, 2, 3, 4, 5, 6, 7, 8, 9, 10, 11, 12, 13, 14, 15, 16, 17, 18, 19, 20, 21, 22, 23, 24, 25, 26, 27, 28], 29), ([30, 31, 32, 33, 34, 35, 36, 37, 38, 39], 40), ([41, 42, 43, 44, 45], 46), ([], 47)] [48, 49, 50] [] (by kernel_rfl) (by kernel_rfl) (by kernel_rfl) (fun _ _ _ _ _ h => h) ?_
  rw [HWD.out]
  refine tail_cons (l := ?seg1) ?hseg1 ?_
  case hseg1 => simp only [pick, List.getElem?_toArray, List.getElem?_cons_succ, List.getElem?_cons_zero]; rfl
  repeat (go_big_quiet_step (fail))
  refine wpQuiet_nil ?_
  obtain ⟨w7, hw7⟩ : ∃ w7, wd.alloc (.cells (rowB y) 5) = w7 := ⟨_, rfl⟩
  have hb7 : Below wd.heap.size wd w7 := by rw [← hw7]; exact (Below.refl _ _).alloc (Nat.le_refl _) _
  have f7 : Fill w7 wd.heap.size 5 y := by rw [← hw7]; exact Fill.made wd _ _
  have r7 := f7.reads
  rw [YL.out] at r7
  have HR7 := Lib.hid r7
  have HB7 := Lib.hid hb7
  refine tail_val2 (some 80) (w1 := w7) (v := .slice (some ⟨wd.heap.size, 0, none⟩) 1 1) rfl rfl rfl (bslice_run rfl rfl (by rw [← hw7]; exact HBS.out wd)) hb7 ?_
  refine ⟨w7.heap.size, hb7.size, ?_⟩
  clear q1 q2 hw7 hb7 f7 r7
  have q2 := conv_Bx ((HR6.out.below HB7.out).more HB7.out.size) c6
  have q3 := conv_Bx HR7.out 1
  refine tail_cons (l := ?seg2) ?hseg2 ?_
  case hseg2 => simp only [pick, List.getElem?_toArray, List.getElem?_cons_succ, List.getElem?_cons_zero]; rfl
  simp only [Act.put, List.setIfInBounds_toArray, List.set_cons_zero, List.set_cons_succ]
  repeat (go_big_quiet_step (fail))
  refine wpQuiet_nil ?_
  clear q2 q3
  obtain ⟨w8, hw8⟩ : ∃ w8, w7.alloc (.cells (rowB z) 5) = w8 := ⟨_, rfl⟩
  have hb8 : Below w7.heap.size w7 w8 := by rw [← hw8]; exact (Below.refl _ _).alloc (Nat.le_refl _) _
  have f8 : Fill w8 w7.heap.size 5 z := by rw [← hw8]; exact Fill.made w7 _ _
  have r8 := f8.reads
  rw [ZL.out] at r8
  have HB8 := Lib.hid hb8
  refine tail_val2 (some 91) (w1 := w8) (v := .slice (some ⟨w7.heap.size, 0, none⟩) 16 16) rfl rfl rfl (mk_run rfl rfl rfl (by rw [← hw8]; exact HMK.out w7)) hb8 ?_
  refine ⟨w8.heap.size, hb8.size, ?_⟩
  have q2 := conv_Bx r8 16
  clear hw8 hb8 f8 r8
  refine tail_cons (l := ?seg3) ?hseg3 ?_
  case hseg3 => simp only [pick, List.getElem?_toArray, List.getElem?_cons_succ, List.getElem?_cons_zero]; rfl
  simp only [Act.put, List.setIfInBounds_toArray, List.set_cons_zero, List.set_cons_succ]
  repeat (go_big_quiet_step (fail))
  refine wpQuiet_nil ?_
  clear q2
  have hb78 := HB7.out.trans (HB8.out.mono HB7.out.size)
  have HV8 := Lib.hid (HV6.out.below hb78)
  have HB68 := Lib.hid (HB6.out.trans (hb78.mono HB6.out.size))
  refine tail_call (vs := #[.pointer (some ⟨q, 0, none⟩), .int .u64 193]) Tryz.call25 rfl rfl rfl (R := fun r w' => r = .iface 68 (.int .i64 4) ∧ Below w8.heap.size w8 w') ((hfree_bad HV8.out.ph 193 (by omega) T6.out).mono ?_) w8.heap.size (Nat.le_refl _) ?_
  · rintro e w' ⟨rfl, hb⟩
    exact ⟨_, rfl, hb, rfl, hb⟩
  rintro r w9 _ ⟨rfl, hb9⟩
  have HB9 := Lib.hid (HB68.out.trans (hb9.mono HB68.out.size))
  refine tail_cons (l := []) rfl (wpQuiet_nil ?_)
  simp only [Act.put, List.setIfInBounds_toArray, List.set_cons_zero, List.set_cons_succ]
  refine tail_call (vs := #[.iface 68 (.int .i64 4)]) Tryz.call8 rfl rfl rfl (R := fun r w' => r = .int .i64 4 ∧ w' = w9) ((code_err w9 4 (by omega) (by omega)).mono ?_) w8.heap.size (Nat.le_refl _) ?_
  · rintro e w' ⟨rfl, rfl⟩
    exact ⟨_, rfl, Below.refl _ _, rfl, rfl⟩
  rintro r w10 _ ⟨rfl, rfl⟩
  refine tail_last (l := ?la4) (t := []) ?hla4 ?htl4 ?_
  case hla4 => simp only [pick, List.getElem?_toArray, List.getElem?_cons_succ, List.getElem?_cons_zero]; rfl
  case htl4 => rfl
  simp only [Act.put, List.setIfInBounds_toArray, List.set_cons_zero, List.set_cons_succ]
  repeat (go_big_quiet_step (fail))
  refine wpQuiet_nil ?_
  clear hb9
  go_wp2
  go_ret
  exact ⟨rfl, HB9.out⟩
end Go.Proofs.YtbldlidpapdkbaaGreatDoor

/- Layer 14's laws: calls that came in, which call is meant, whether they are few, whether two replies are the same. -/
namespace Go.Proofs.YtbldlidpapdkbaaGreatDoor
open Go.RowKit

/-- A call of layer 14's laws. -/
structure Cl where
  which : Int
  op : Int
  h : Nat
  n : Nat
  m : Nat
  at_ : Nat
  A : Option Addr
  c : Nat
  b : List UInt8
def Cl.ok (x : Cl) : Prop := (-9223372036854775808 ≤ x.which ∧ x.which ≤ 9223372036854775807) ∧ (-9223372036854775808 ≤ x.op ∧ x.op ≤ 9223372036854775807) ∧ x.h < 18446744073709551616 ∧ x.n < 18446744073709551616 ∧ x.m < 18446744073709551616 ∧ x.at_ < 18446744073709551616 ∧ x.b.length ≤ maxLen
/-- A slice of such. -/
def ClRd (w : World) (B : Nat) (A : Option Addr) (l : List Cl) : Prop := 0 < l.length → ∃ b o, A = some ⟨b, o, none⟩ ∧ b < B ∧ ∀ j x, l[j]? = some x →
  (w.cell? ⟨b, o + j * 7, none⟩ = some (.int .i64 x.which) ∧ w.cell? ⟨b, o + j * 7 + 1, none⟩ = some (.int .i64 x.op) ∧ w.cell? ⟨b, o + j * 7 + 2, none⟩ = some (.int .u64 (x.h : Int)) ∧ w.cell? ⟨b, o + j * 7 + 3, none⟩ = some (.int .u64 (x.n : Int)) ∧
  w.cell? ⟨b, o + j * 7 + 4, none⟩ = some (.int .u64 (x.m : Int)) ∧ w.cell? ⟨b, o + j * 7 + 5, none⟩ = some (.int .u64 (x.at_ : Int)) ∧ w.cell? ⟨b, o + j * 7 + 6, none⟩ = some (.slice x.A x.b.length x.c)) ∧ Rd w B x.A x.b.length x.b ∧ x.ok
theorem ClRd.below {w w' : World} {B : Nat} {A : Option Addr} {l : List Cl} (h : ClRd w B A l) (hb : Below B w w') : ClRd w' B A l := fun hn => by
  obtain ⟨b, o, e, hB, hc⟩ := h hn
  refine ⟨b, o, e, hB, fun j x hx => ?_⟩
  obtain ⟨⟨h0, h1, h2, h3, h4, h5, h6⟩, h7, h8⟩ := hc j x hx
  exact ⟨⟨(hb.cell (p := ⟨b, _, none⟩) hB).trans h0, (hb.cell (p := ⟨b, _, none⟩) hB).trans h1, (hb.cell (p := ⟨b, _, none⟩) hB).trans h2, (hb.cell (p := ⟨b, _, none⟩) hB).trans h3, (hb.cell (p := ⟨b, _, none⟩) hB).trans h4, (hb.cell (p := ⟨b, _, none⟩) hB).trans h5, (hb.cell (p := ⟨b, _, none⟩) hB).trans h6⟩, h7.below hb, h8⟩

/-- Numbers of 64 bits, as a row. -/
def uV (n : Nat) : Value := .int .u64 (n : Int)
/-- Of all handles that were told: which one is meant. -/
def meantI (x : Cl) (told : List Nat) : Nat := (x.which % (told.length : Int)).toNat
def meantP (x : Cl) (told : List Nat) : Nat := if 0 ≤ x.which ∧ 0 < told.length then (told.getD (meantI x told) 0 + x.h) % 18446744073709551616 else x.h
def meantO (x : Cl) : Nat := (x.op % 9).toNat
theorem meantO_lt (x : Cl) : meantO x < 9 := by
  unfold meantO
  have h1 := Int.emod_nonneg x.op (b := 9) (by omega)
  have h2 := Int.emod_lt_of_pos x.op (b := 9) (by omega)
  omega
theorem meantP_lt (x : Cl) (told : List Nat) (hx : x.h < 18446744073709551616) : meantP x told < 18446744073709551616 := by
  unfold meantP
  split
  · omega
  · exact hx
theorem cl_set {w : World} {y0 y1 y2 y3 y4 y5 : Value} {g : Nat} {t : TypeId} (h : w.heap[g]? = some (.cells #[y0, y1, y2, y3, y4, y5] t (0, 0))) (x0 x1 x2 x3 x4 x5 : Value) :
    ((((((w.setCell ⟨g, 0, none⟩ x0).setCell ⟨g, 1, none⟩ x1).setCell ⟨g, 2, none⟩ x2).setCell ⟨g, 3, none⟩ x3).setCell ⟨g, 4, none⟩ x4).setCell ⟨g, 5, none⟩ x5).heap[g]? = some (.cells #[x0, x1, x2, x3, x4, x5] t (0, 0)) := by
  have h1 := heap_setCell_same _ g 0 _ _ x0 h
  have h1 : (_ : Option Obj) = some (.cells #[x0, y1, y2, y3, y4, y5] t (0, 0)) := h1
  have h2 := heap_setCell_same _ g 1 _ _ x1 h1
  have h2 : (_ : Option Obj) = some (.cells #[x0, x1, y2, y3, y4, y5] t (0, 0)) := h2
  have h3 := heap_setCell_same _ g 2 _ _ x2 h2
  have h3 : (_ : Option Obj) = some (.cells #[x0, x1, x2, y3, y4, y5] t (0, 0)) := h3
  have h4 := heap_setCell_same _ g 3 _ _ x3 h3
  have h4 : (_ : Option Obj) = some (.cells #[x0, x1, x2, x3, y4, y5] t (0, 0)) := h4
  have h5 := heap_setCell_same _ g 4 _ _ x4 h4
  have h5 : (_ : Option Obj) = some (.cells #[x0, x1, x2, x3, x4, y5] t (0, 0)) := h5
  have h6 := heap_setCell_same _ g 5 _ _ x5 h5
  have h6 : (_ : Option Obj) = some (.cells #[x0, x1, x2, x3, x4, x5] t (0, 0)) := h6
  exact h6
theorem cl_thaw {w : World} {y0 y1 y2 y3 y4 y5 : Value} {g : Nat} {t : TypeId} (h : w.heap[g]? = some (.cells #[y0, y1, y2, y3, y4, y5] t (0, 0))) : w.frozen? ⟨g, 0, none⟩ = false ∧ w.frozen? ⟨g, 1, none⟩ = false ∧ w.frozen? ⟨g, 2, none⟩ = false ∧ w.frozen? ⟨g, 3, none⟩ = false ∧ w.frozen? ⟨g, 4, none⟩ = false ∧ w.frozen? ⟨g, 5, none⟩ = false :=
  ⟨frozen_of_row w g 0 _ _ h, frozen_of_row w g 1 _ _ h, frozen_of_row w g 2 _ _ h, frozen_of_row w g 3 _ _ h, frozen_of_row w g 4 _ _ h, frozen_of_row w g 5 _ _ h⟩
theorem cx_cells {w : World} {x0 x1 x2 x3 x4 x5 x6 : Value} {g : Nat} {t : TypeId} (h : w.heap[g]? = some (.cells #[x0, x1, x2, x3, x4, x5, x6] t (0, 0))) :
    w.cell? ⟨g, 0, none⟩ = some x0 ∧ w.cell? ⟨g, 1, none⟩ = some x1 ∧ w.cell? ⟨g, 2, none⟩ = some x2 ∧ w.cell? ⟨g, 3, none⟩ = some x3 ∧ w.cell? ⟨g, 4, none⟩ = some x4 ∧ w.cell? ⟨g, 5, none⟩ = some x5 ∧ w.cell? ⟨g, 6, none⟩ = some x6 := by
  refine ⟨?_, ?_, ?_, ?_, ?_, ?_, ?_⟩
  · rw [cell_of_row w g 0 _ _ (0, 0) h]; rfl
  · rw [cell_of_row w g 1 _ _ (0, 0) h]; rfl
  · rw [cell_of_row w g 2 _ _ (0, 0) h]; rfl
  · rw [cell_of_row w g 3 _ _ (0, 0) h]; rfl
  · rw [cell_of_row w g 4 _ _ (0, 0) h]; rfl
  · rw [cell_of_row w g 5 _ _ (0, 0) h]; rfl
  · rw [cell_of_row w g 6 _ _ (0, 0) h]; rfl
set_option maxRecDepth 100000 in
theorem call_ret {fn : Func} {R : Ending → World → Prop} {a : Act} {w : World} {p : Tmp} {g : Nat} {x0 x1 x2 x3 x4 x5 : Value} (hres : fn.results = #[.cell p 38]) (hp : a.tmps.getD p undef = .pointer (some ⟨g, 0, none⟩)) (hd : a.defers = [])
    (hg : w.heap[g]? = some (.cells #[x0, x1, x2, x3, x4, x5] 38 (0, 0))) (hR : R (.returned (.agg #[x0, x1, x2, x3, x4, x5])) w) : bodyPost Tryz.prog fn R .ret a w := by
  refine bodyPost_ret (v := .agg #[x0, x1, x2, x3, x4, x5]) ?_ hd hR
  exact results_cell_row hres _ _ g _ _ _ _ hp hg rfl rfl rfl
/-- A row of told handles. -/
def Tl (w : World) (B : Nat) (A : Option Addr) (told : List Nat) : Prop := 0 < told.length → ∃ b, A = some ⟨b, 0, none⟩ ∧ B ≤ b ∧ b < w.heap.size ∧ ∀ (j v : Nat), told[j]? = some v → w.cell? ⟨b, j, none⟩ = some (.int .u64 (v : Int))
theorem Tl.below {w w' : World} {B : Nat} {A : Option Addr} {told : List Nat} (h : Tl w B A told) (hb : Below w.heap.size w w') : Tl w' B A told := fun hn => by
  obtain ⟨b, e, h1, h2, h3⟩ := h hn
  exact ⟨b, e, h1, Nat.lt_of_lt_of_le h2 hb.size, fun j v hv => (hb.cell (p := ⟨b, j, none⟩) h2).trans (h3 j v hv)⟩
set_option maxRecDepth 100000 in
set_option maxHeartbeats 1000000 in
theorem meant_any (w : World) (x : Cl) (hx : x.ok) (A1 : Option Addr) (c1 : Nat) (told : List Nat) (B : Nat) (ht : Tl w B A1 told) (hl : told.length ≤ 1000) (h64 : ∀ v ∈ told, v < 18446744073709551616) :
    Calls Tryz.prog 11 #[.agg #[.int .i64 x.which, .int .i64 x.op, .int .u64 (x.h : Int), .int .u64 (x.n : Int), .int .u64 (x.m : Int), .int .u64 (x.at_ : Int), .slice x.A x.b.length x.c], .slice A1 told.length c1] w
      fun e w' => e = .returned (callV (meantO x : Int) (meantP x told) x.n x.m x.at_ x.A x.b.length x.c) ∧ Below w.heap.size w w' := by
  obtain ⟨hw, ho, hh, hn, hm, ha, _⟩ := hx
  have hPK := fun W => lpick_any x.op 9 W (by omega) (by omega) (meantO x) rfl
  have hol := meantO_lt x
  obtain ⟨o9, ho9⟩ : ∃ o9, meantO x = o9 := ⟨_, rfl⟩
  rw [ho9] at hPK hol ⊢
  obtain ⟨p, hp⟩ : ∃ p, meantP x told = p := ⟨_, rfl⟩
  rw [hp]
  have HPV := Lib.hid hp
  unfold meantP meantI at hp
  obtain ⟨wh, xo, xh, xn, xm, xa, xA, xc, xb⟩ := x
  dsimp only at hw ho hh hn hm ha hp hPK ⊢
  obtain ⟨bl, hbl⟩ : ∃ bl, xb.length = bl := ⟨_, rfl⟩
  obtain ⟨tl, htl⟩ : ∃ tl, told.length = tl := ⟨_, rfl⟩
  rw [hbl]
  rw [htl] at hp hl ⊢
  have HPK := Lib.hid hPK
  have HT := Lib.hid ht
  have HTL := Lib.hid htl
  have H64 := Lib.hid h64
  obtain ⟨w1, hw1⟩ : ∃ w1, w.alloc (.cells #[.int .i64 wh, .int .i64 xo, .int .u64 (xh : Int), .int .u64 (xn : Int), .int .u64 (xm : Int), .int .u64 (xa : Int), .slice xA bl xc] 41) = w1 := ⟨_, rfl⟩
  have b1 : Below w.heap.size w w1 := by rw [← hw1]; exact (Below.refl _ _).alloc (Nat.le_refl _) _
  have n1 : w1.heap[w.heap.size]? = some (.cells #[.int .i64 wh, .int .i64 xo, .int .u64 (xh : Int), .int .u64 (xn : Int), .int .u64 (xm : Int), .int .u64 (xa : Int), .slice xA bl xc] 41 (0, 0)) := by rw [← hw1]; exact heap_alloc_new w _
  obtain ⟨w2, hw2⟩ : ∃ w2, w1.alloc (.cells #[.int .i64 0, .int .u64 0, .int .u64 0, .int .u64 0, .int .u64 0, .slice none 0 0] 38) = w2 := ⟨_, rfl⟩
  have b2 : Below w1.heap.size w1 w2 := by rw [← hw2]; exact (Below.refl _ _).alloc (Nat.le_refl _) _
  have n2 : w2.heap[w1.heap.size]? = some (.cells #[.int .i64 0, .int .u64 0, .int .u64 0, .int .u64 0, .int .u64 0, .slice none 0 0] 38 (0, 0)) := by rw [← hw2]; exact heap_alloc_new w1 _
  have m2 := (b2.block _ (heap_lt n1)).trans n1
  obtain ⟨w3, hw3⟩ : ∃ w3, w2.alloc (.cells #[.int .i64 xo, .int .u64 (xh : Int), .int .u64 (xn : Int), .int .u64 (xm : Int), .int .u64 (xa : Int), .slice xA bl xc] 38) = w3 := ⟨_, rfl⟩
  have b3 : Below w2.heap.size w2 w3 := by rw [← hw3]; exact (Below.refl _ _).alloc (Nat.le_refl _) _
  have n3 : w3.heap[w2.heap.size]? = some (.cells #[.int .i64 xo, .int .u64 (xh : Int), .int .u64 (xn : Int), .int .u64 (xm : Int), .int .u64 (xa : Int), .slice xA bl xc] 38 (0, 0)) := by rw [← hw3]; exact heap_alloc_new w2 _
  have m3 := (b3.block _ (heap_lt m2)).trans m2
  have k3 := (b3.block _ (heap_lt n2)).trans n2
  obtain ⟨w4, hw4⟩ : ∃ w4, w3.setCell ⟨w2.heap.size, 0, none⟩ (.int .i64 (o9 : Int)) = w4 := ⟨_, rfl⟩
  have hne1 : w2.heap.size ≠ w.heap.size := fun e => by have := heap_lt m2; omega
  have hne2 : w2.heap.size ≠ w1.heap.size := fun e => by have := heap_lt n2; omega
  have n4 : w4.heap[w2.heap.size]? = some (.cells #[.int .i64 (o9 : Int), .int .u64 (xh : Int), .int .u64 (xn : Int), .int .u64 (xm : Int), .int .u64 (xa : Int), .slice xA bl xc] 38 (0, 0)) := by rw [← hw4]; exact heap_setCell_same w3 w2.heap.size 0 _ _ _ n3
  have m4 : w4.heap[w.heap.size]? = some (.cells #[.int .i64 wh, .int .i64 xo, .int .u64 (xh : Int), .int .u64 (xn : Int), .int .u64 (xm : Int), .int .u64 (xa : Int), .slice xA bl xc] 41 (0, 0)) := by rw [← hw4]; exact (Below.heap_setCell w3 ⟨w2.heap.size, 0, none⟩ _ w.heap.size (Ne.symm hne1)).trans m3
  have k4 : w4.heap[w1.heap.size]? = some (.cells #[.int .i64 0, .int .u64 0, .int .u64 0, .int .u64 0, .int .u64 0, .slice none 0 0] 38 (0, 0)) := by rw [← hw4]; exact (Below.heap_setCell w3 ⟨w2.heap.size, 0, none⟩ _ w1.heap.size (Ne.symm hne2)).trans k3
  have b03 : Below w.heap.size w w3 := b1.trans ((b2.mono b1.size).trans (b3.mono (Nat.le_trans b1.size b2.size)))
  have b04 : Below w.heap.size w w4 := by rw [← hw4]; exact b03.setCell (Nat.le_trans b1.size b2.size) _
  have HW1 := Lib.hid hw1
  have HW2 := Lib.hid hw2
  have HW3 := Lib.hid hw3
  have HW4 := Lib.hid hw4
  have HB4 := Lib.hid b04
  have HN4 := Lib.hid n4
  have HM4 := Lib.hid m4
  have HK4 := Lib.hid k4
  have HNE1 := Lib.hid hne1
  have HNE2 := Lib.hid hne2
  obtain ⟨z0, z1, z2, z3, z4, z5, z6⟩ := cx_cells m2
  have hz2 := heap_lt' m2
  obtain ⟨y0, y1, y2, y3, y4, y5⟩ := cl_cells n3
  obtain ⟨f0, f1, f2, f3, f4, f5⟩ := cl_thaw n3
  have hy3 := heap_lt' n3
  have HL1 := Lib.hid b1.size
  have HL2 := Lib.hid (Nat.le_trans b1.size b2.size)
  clear hPK ht htl h64 hbl hw1 hw2 hw3 hw4 b1 b2 b3 n1 n2 n3 n4 m2 m3 m4 k3 k4 b03 b04 hne1 hne2
  unfold callV
  go_enter Tryz.func11, Tryz.ntmps11
  go_wp2_with (first | (rw [HW1.out]) | (rw [HW2.out]) | (rw [HW3.out]) | fail)
  refine (HPK.out _).mono ?_
  rintro e w5 ⟨rfl, rfl⟩
  clear z0 z1 z2 z3 z4 z5 z6
  obtain ⟨z0, z1, z2, z3, z4, z5, z6⟩ := cx_cells HM4.out
  have hz4 := heap_lt' HM4.out
  by_cases hw0 : 0 ≤ wh ∧ 0 < tl
  · rw [if_pos hw0] at hp
    obtain ⟨hwh, htl0⟩ := hw0
    have hm1 := Int.emod_nonneg wh (b := (tl : Int)) (by omega)
    have hm2 := Int.emod_lt_of_pos wh (b := (tl : Int)) (by omega)
    obtain ⟨i, hi⟩ : ∃ i, (wh % (tl : Int)).toNat = i := ⟨_, rfl⟩
    rw [hi] at hp
    have em : Int.tmod wh (tl : Int) = (i : Int) := by rw [Int.tmod_eq_emod_of_nonneg hwh]; omega
    have hil : i < tl := by omega
    obtain ⟨b, rfl, hbB, hbl, hcell⟩ := HT.out (by rw [HTL.out]; exact htl0)
    obtain ⟨v, hv⟩ : ∃ v, told[i]? = some v := ⟨told[i]'(by rw [HTL.out]; exact hil), List.getElem?_eq_getElem _⟩
    have hgd : told.getD i 0 = v := by rw [List.getD_eq_getElem?_getD, hv]; rfl
    rw [hgd] at hp
    have hv64 := H64.out v (List.mem_of_getElem? hv)
    have ev : IntKind.u64.wrap ((v : Int) + (xh : Int)) = (p : Int) := by rw [IntKind.wrap_u64]; omega
    have cb := hcell i v hv
    have g1 : decide ((0 : Int) ≤ wh) = true := decide_eq_true hwh
    have g2 : decide (0 < tl) = true := decide_eq_true htl0
    obtain ⟨wd, hwd⟩ : ∃ wd, w4.drew = wd := ⟨_, rfl⟩
    have bd : Below w.heap.size w wd := by rw [← hwd]; exact HB4.out.drew
    have nd : wd.heap[w2.heap.size]? = some (.cells #[.int .i64 (o9 : Int), .int .u64 (xh : Int), .int .u64 (xn : Int), .int .u64 (xm : Int), .int .u64 (xa : Int), .slice xA bl xc] 38 (0, 0)) := by rw [← hwd]; exact HN4.out
    have kd : wd.heap[w1.heap.size]? = some (.cells #[.int .i64 0, .int .u64 0, .int .u64 0, .int .u64 0, .int .u64 0, .slice none 0 0] 38 (0, 0)) := by rw [← hwd]; exact HK4.out
    have md : wd.heap[w.heap.size]? = some (.cells #[.int .i64 wh, .int .i64 xo, .int .u64 (xh : Int), .int .u64 (xn : Int), .int .u64 (xm : Int), .int .u64 (xa : Int), .slice xA bl xc] 41 (0, 0)) := by rw [← hwd]; exact HM4.out
    have hltm := heap_lt' md
    have hltn := heap_lt' nd
    have hltb : b < wd.heap.size := Nat.lt_of_lt_of_le hbl bd.size
    have cbd : wd.cell? ⟨b, i, none⟩ = some (.int .u64 (v : Int)) := (bd.cell (p := ⟨b, i, none⟩) hbl).trans cb
    obtain ⟨u0, u1, u2, u3, u4, u5, u6⟩ := cx_cells md
    obtain ⟨w5, hw5⟩ : ∃ w5, wd.setCell ⟨w2.heap.size, 1, none⟩ (.int .u64 (p : Int)) = w5 := ⟨_, rfl⟩
    have n5 : w5.heap[w2.heap.size]? = some (.cells #[.int .i64 (o9 : Int), .int .u64 (p : Int), .int .u64 (xn : Int), .int .u64 (xm : Int), .int .u64 (xa : Int), .slice xA bl xc] 38 (0, 0)) := by rw [← hw5]; exact heap_setCell_same wd w2.heap.size 1 _ _ _ nd
    have KW : Hid (w5.heap[w1.heap.size]? = some (.cells #[.int .i64 0, .int .u64 0, .int .u64 0, .int .u64 0, .int .u64 0, .slice none 0 0] 38 (0, 0))) := (show _ by rw [← hw5]; exact (Below.heap_setCell wd ⟨w2.heap.size, 1, none⟩ _ w1.heap.size (Ne.symm HNE2.out)).trans kd)
    have BW : Hid (Below w.heap.size w w5) := (show Below _ _ _ by rw [← hw5]; exact bd.setCell HL2.out _)
    obtain ⟨y0', y1', y2', y3', y4', y5'⟩ := cl_cells nd
    obtain ⟨g0', g1', g2', g3', g4', g5'⟩ := cl_thaw nd
    obtain ⟨v0, v1, v2, v3, v4, v5⟩ := cl_cells n5
    have hltn5 := heap_lt' n5
    have HW5 := Lib.hid hw5
    have HWD := Lib.hid hwd
    clear hp hm1 hm2 hi hcell hv hgd cb bd nd kd md hw5 n5 hwd HT H64 HPK
    go_wp2_with (first | (rw [HW4.out]) | fail)
    refine wp_region_tail wd.heap.size [] [0, 1, 2, 3, 4, 5, 6, 7, 8, 9, 10, 11, 12] [13] (by kernel_rfl) (by kernel_rfl) (by kernel_rfl) (fun _ _ _ _ _ h => h) ?_
    rw [HWD.out]
    have q0 : ∀ z : LaterB wd.heap.size wd, z.val.cell? ⟨w.heap.size, 0, none⟩ = some (.int .i64 wh) := fun z => (z.ext.cell (p := ⟨w.heap.size, 0, none⟩) hltm).trans u0
    have q1 : ∀ z : LaterB wd.heap.size wd, z.val.cell? ⟨w.heap.size, 2, none⟩ = some (.int .u64 (xh : Int)) := fun z => (z.ext.cell (p := ⟨w.heap.size, 2, none⟩) hltm).trans u2
    have q2 : ∀ z : LaterB wd.heap.size wd, z.val.cell? ⟨b, i, none⟩ = some (.int .u64 (v : Int)) := fun z => (z.ext.cell (p := ⟨b, i, none⟩) hltb).trans cbd
    refine tail_last (l := ?la2) (t := ?tl2) ?hla2 ?htl2 ?_
    case hla2 => simp only [pick, List.getElem?_toArray, List.getElem?_cons_succ, List.getElem?_cons_zero]; rfl
    case htl2 => simp only [pick, List.getElem?_toArray, List.getElem?_cons_succ, List.getElem?_cons_zero]; rfl
    repeat (go_big_quiet_step (fail))
    refine wpQuiet_nil ?_
    clear q0 q1 q2
    obtain ⟨⟨k0, k1, k2, k3, k4, k5⟩, e0, e1, e2, e3, e4, e5⟩ := (show _ ∧ _ from ⟨cl_cells KW.out, cl_thaw KW.out⟩)
    have hk9 := heap_lt' KW.out
    have MF := Lib.hid (cl_set KW.out (.int .i64 (o9 : Int)) (.int .u64 (p : Int)) (.int .u64 (xn : Int)) (.int .u64 (xm : Int)) (.int .u64 (xa : Int)) (.slice xA bl xc))
    have BF := Lib.hid ((((((BW.out.setCell (p := ⟨w1.heap.size, 0, none⟩) HL1.out (.int .i64 (o9 : Int))).setCell (p := ⟨w1.heap.size, 1, none⟩) HL1.out (.int .u64 (p : Int))).setCell (p := ⟨w1.heap.size, 2, none⟩) HL1.out (.int .u64 (xn : Int))).setCell (p := ⟨w1.heap.size, 3, none⟩) HL1.out (.int .u64 (xm : Int))).setCell (p := ⟨w1.heap.size, 4, none⟩) HL1.out (.int .u64 (xa : Int))).setCell (p := ⟨w1.heap.size, 5, none⟩) HL1.out (.slice xA bl xc))
    go_wp2_with (first | (rw [HW5.out]) | fail)
    (try simp only [Exit.inBlock, Exit.then])
    refine call_ret (g := w1.heap.size) Tryz.results11 ?_ ?_ MF.out ?_
    · rfl
    · rfl
    · exact ⟨rfl, BF.out⟩
  · rw [if_neg hw0] at hp
    subst hp
    have KW := HK4
    have BW := HB4
    obtain ⟨y0', y1', y2', y3', y4', y5'⟩ := cl_cells HN4.out
    have hltn5 := heap_lt' HN4.out
    clear HT H64 HPK
    by_cases hwh : 0 ≤ wh
    · have htl0 : ¬ 0 < tl := fun h => hw0 ⟨hwh, h⟩
      have g1 : decide ((0 : Int) ≤ wh) = true := decide_eq_true hwh
      have g2 : decide (0 < tl) = false := decide_eq_false htl0
      obtain ⟨⟨k0, k1, k2, k3, k4, k5⟩, e0, e1, e2, e3, e4, e5⟩ := (show _ ∧ _ from ⟨cl_cells KW.out, cl_thaw KW.out⟩)
      have hk9 := heap_lt' KW.out
      have MF := Lib.hid (cl_set KW.out (.int .i64 (o9 : Int)) (.int .u64 (xh : Int)) (.int .u64 (xn : Int)) (.int .u64 (xm : Int)) (.int .u64 (xa : Int)) (.slice xA bl xc))
      have BF := Lib.hid ((((((BW.out.setCell (p := ⟨w1.heap.size, 0, none⟩) HL1.out (.int .i64 (o9 : Int))).setCell (p := ⟨w1.heap.size, 1, none⟩) HL1.out (.int .u64 (xh : Int))).setCell (p := ⟨w1.heap.size, 2, none⟩) HL1.out (.int .u64 (xn : Int))).setCell (p := ⟨w1.heap.size, 3, none⟩) HL1.out (.int .u64 (xm : Int))).setCell (p := ⟨w1.heap.size, 4, none⟩) HL1.out (.int .u64 (xa : Int))).setCell (p := ⟨w1.heap.size, 5, none⟩) HL1.out (.slice xA bl xc))
      go_wp2_with (first | (rw [HW4.out]) | fail)
      (try simp only [Exit.inBlock, Exit.then])
      refine call_ret (g := w1.heap.size) Tryz.results11 ?_ ?_ MF.out ?_
      · rfl
      · rfl
      · exact ⟨rfl, BF.out⟩
    · have g1 : decide ((0 : Int) ≤ wh) = false := decide_eq_false hwh
      obtain ⟨⟨k0, k1, k2, k3, k4, k5⟩, e0, e1, e2, e3, e4, e5⟩ := (show _ ∧ _ from ⟨cl_cells KW.out, cl_thaw KW.out⟩)
      have hk9 := heap_lt' KW.out
      have MF := Lib.hid (cl_set KW.out (.int .i64 (o9 : Int)) (.int .u64 (xh : Int)) (.int .u64 (xn : Int)) (.int .u64 (xm : Int)) (.int .u64 (xa : Int)) (.slice xA bl xc))
      have BF := Lib.hid ((((((BW.out.setCell (p := ⟨w1.heap.size, 0, none⟩) HL1.out (.int .i64 (o9 : Int))).setCell (p := ⟨w1.heap.size, 1, none⟩) HL1.out (.int .u64 (xh : Int))).setCell (p := ⟨w1.heap.size, 2, none⟩) HL1.out (.int .u64 (xn : Int))).setCell (p := ⟨w1.heap.size, 3, none⟩) HL1.out (.int .u64 (xm : Int))).setCell (p := ⟨w1.heap.size, 4, none⟩) HL1.out (.int .u64 (xa : Int))).setCell (p := ⟨w1.heap.size, 5, none⟩) HL1.out (.slice xA bl xc))
      go_wp2_with (first | (rw [HW4.out]) | fail)
      (try simp only [Exit.inBlock, Exit.then])
      refine call_ret (g := w1.heap.size) Tryz.results11 ?_ ?_ MF.out ?_
      · rfl
      · rfl
      · exact ⟨rfl, BF.out⟩
end Go.Proofs.YtbldlidpapdkbaaGreatDoor

/- Layer 14's laws: whether calls are few, whether two replies are the same, handles that are told. -/
namespace Go.Proofs.YtbldlidpapdkbaaGreatDoor
open Go.RowKit

/-- Few calls, of few bytes. -/
def smallC (l : List Cl) (most : Nat) : Bool := decide (l.length ≤ most) && l.all fun x => decide (x.b.length ≤ 2000)
set_option maxHeartbeats 1000000 in
theorem small_any (w : World) (A : Option Addr) (k : Nat) (l : List Cl) (hL : ClRd w w.heap.size A l) (hm : l.length ≤ 9223372036854775807) (most : Nat) (h1 : most ≤ 1000) :
    Calls Tryz.prog 9 #[.slice A l.length k, .int .i64 (most : Int)] w fun e w' => e = .returned (.int .i64 (if smallC l most = true then 1 else 0)) ∧ w = w' := by
  by_cases hl : most < l.length
  · have e : smallC l most = false := by unfold smallC; rw [decide_eq_false (by omega)]; rfl
    rw [e]
    have g1 : decide (most < l.length) = true := decide_eq_true hl
    clear e hL
    go_enter Tryz.func9, Tryz.ntmps9
    go_wp2
    go_ret
    exact ⟨rfl, rfl⟩
  · have g1 : decide (most < l.length) = false := decide_eq_false hl
    have HE : Hid (∀ j, (∀ i x, i < j → l[i]? = some x → x.b.length ≤ 2000) → (j = l.length → smallC l most = true) ∧ ∀ x, l[j]? = some x → 2000 < x.b.length → smallC l most = false) := fun j hj => by
      refine ⟨fun e => ?_, fun x hx hb => ?_⟩
      · unfold smallC
        rw [decide_eq_true (by omega), Bool.true_and, List.all_eq_true]
        intro x hx
        obtain ⟨i, hi⟩ := List.mem_iff_getElem?.1 hx
        exact decide_eq_true (hj i x (by have := lst_lt hi; omega) hi)
      · unfold smallC
        have : (l.all fun x => decide (x.b.length ≤ 2000)) = false := by
          rw [List.all_eq_false]
          exact ⟨x, List.mem_of_getElem? hx, by simp; omega⟩
        rw [this, Bool.and_false]
    obtain ⟨n, hn⟩ : ∃ n, l.length = n := ⟨_, rfl⟩
    rw [hn] at g1 hl hm ⊢
    have HN := Lib.hid hn
    obtain ⟨v, hv⟩ : ∃ v : Int, (if smallC l most = true then (1 : Int) else 0) = v := ⟨_, rfl⟩
    have HV := Lib.hid hv
    rw [hv]
    have HL := Lib.hid hL
    clear hL hn hv
    go_enter Tryz.func9, Tryz.ntmps9
    go_wp2
    go_loopw [5] (fun i wr => ∃ j : Nat, i = .int .i64 (j : Int) ∧ j ≤ n ∧ (∀ i x, i < j → l[i]? = some x → x.b.length ≤ 2000) ∧ w = wr) (fun i _ => n - (intOf i).toNat)
    case atStart => exact ⟨0, rfl, Nat.zero_le _, fun i x hi => absurd hi (Nat.not_lt_zero _), rfl⟩
    case round =>
      obtain ⟨j, rfl, hj, hs, rfl⟩ := hrel
      obtain ⟨hE1, hE2⟩ := HE.out j hs
      by_cases hlt : j < n
      · obtain ⟨x, hx⟩ : ∃ x, l[j]? = some x := ⟨l[j]'(by rw [HN.out]; exact hlt), List.getElem?_eq_getElem _⟩
        obtain ⟨b, o, rfl, _, hc⟩ := HL.out (by rw [HN.out]; omega)
        obtain ⟨⟨c0, c1, c2, c3, c4, c5, c6⟩, _⟩ := hc j x hx
        have hE3 := hE2 x hx
        obtain ⟨bl, hbl⟩ : ∃ bl, x.b.length = bl := ⟨_, rfl⟩
        rw [hbl] at c6 hE3
        have HX := Lib.hid hx
        have HBL := Lib.hid hbl
        have HS := Lib.hid hs
        by_cases hb : 2000 < bl
        · have g3 : decide ((2000 : Int) < (bl : Int)) = true := decide_eq_true (by omega)
          have e := hE3 hb
          have HV0 : Hid (v = 0) := (show v = 0 by rw [← HV.out, e]; rfl)
          clear hE1 hE2 hE3 hc hx hbl hs e
          go_wp2
          go_ret
          rw [HV0.out]
          exact ⟨rfl, rfl⟩
        · have g3 : decide ((2000 : Int) < (bl : Int)) = false := decide_eq_false (by omega)
          have HS2 : Hid (∀ i z, i < j + 1 → l[i]? = some z → z.b.length ≤ 2000) := fun i z hi hz => by
            by_cases e : i < j
            · exact HS.out i z e hz
            · obtain rfl : i = j := by omega
              rw [HX.out] at hz
              injection hz with hz
              rw [← hz, HBL.out]; omega
          clear hE1 hE2 hE3 hc hx hbl hs
          go_wp2
          go_roundw
          case rel => exact ⟨j + 1, by go_num, by omega, HS2.out, trivial⟩
          case measure => simp only [intOf]; omega
      · have e := hE1 (by rw [HN.out]; omega)
        have HV1 : Hid (v = 1) := (show v = 1 by rw [← HV.out, e]; rfl)
        clear hE1 hE2 hs e
        go_wp2
        go_ret
        rw [HV1.out]
        exact ⟨rfl, rfl⟩

set_option maxRecDepth 100000 in
set_option maxHeartbeats 1000000 in
theorem same_any (w : World) (r : Rp) (A1 A2 : Option Addr) (c1 c2 : Nat) (h1 : Rd w w.heap.size A1 r.b.length r.b) (h2 : Rd w w.heap.size A2 r.b.length r.b) :
    Calls Tryz.prog 14 #[rpV r A1 c1, rpV r A2 c2] w fun e w' => e = .returned (.bool true) ∧ Below w.heap.size w w' := by
  obtain ⟨rk, rh, rn, rb, ⟨s0, s1, s2, s3, s4⟩⟩ := r
  unfold rpV rpRow
  dsimp only at h1 h2 ⊢
  obtain ⟨bl, hbl⟩ : ∃ bl, rb.length = bl := ⟨_, rfl⟩
  rw [hbl] at h1 h2 ⊢
  obtain ⟨w1, hw1⟩ : ∃ w1, w.alloc (.cells #[.int .i64 rk, .int .u64 (rh : Int), .int .u64 (rn : Int), .slice A1 bl c1, .int .i64 (s0 : Int), .int .i64 (s1 : Int), .int .i64 (s2 : Int), .int .i64 (s3 : Int), .int .i64 (s4 : Int)] 45) = w1 := ⟨_, rfl⟩
  obtain ⟨w2, hw2⟩ : ∃ w2, w1.alloc (.cells #[.int .i64 rk, .int .u64 (rh : Int), .int .u64 (rn : Int), .slice A2 bl c2, .int .i64 (s0 : Int), .int .i64 (s1 : Int), .int .i64 (s2 : Int), .int .i64 (s3 : Int), .int .i64 (s4 : Int)] 45) = w2 := ⟨_, rfl⟩
  have b1 : Below w.heap.size w w1 := by rw [← hw1]; exact (Below.refl _ _).alloc (Nat.le_refl _) _
  have b2 : Below w1.heap.size w1 w2 := by rw [← hw2]; exact (Below.refl _ _).alloc (Nat.le_refl _) _
  have n1 : w1.heap[w.heap.size]? = some (.cells #[.int .i64 rk, .int .u64 (rh : Int), .int .u64 (rn : Int), .slice A1 bl c1, .int .i64 (s0 : Int), .int .i64 (s1 : Int), .int .i64 (s2 : Int), .int .i64 (s3 : Int), .int .i64 (s4 : Int)] 45 (0, 0)) := by rw [← hw1]; exact heap_alloc_new w _
  have n2 : w2.heap[w1.heap.size]? = some (.cells #[.int .i64 rk, .int .u64 (rh : Int), .int .u64 (rn : Int), .slice A2 bl c2, .int .i64 (s0 : Int), .int .i64 (s1 : Int), .int .i64 (s2 : Int), .int .i64 (s3 : Int), .int .i64 (s4 : Int)] 45 (0, 0)) := by rw [← hw2]; exact heap_alloc_new w1 _
  have m2 := (b2.block _ (heap_lt n1)).trans n1
  have b12 := b1.trans (b2.mono b1.size)
  obtain ⟨⟨y0, y1, y2, y3, y4, y5, y6, y7, y8⟩, _⟩ := rp_cells m2
  obtain ⟨⟨z0, z1, z2, z3, z4, z5, z6, z7, z8⟩, _⟩ := rp_cells n2
  have hy := heap_lt' m2
  have hz := heap_lt' n2
  have q1 := conv_rd (c := c1) ((h1.below b12).more b12.size)
  have q2 := conv_rd (c := c2) ((h2.below b12).more b12.size)
  have HB := Lib.hid b12
  have HW1 := Lib.hid hw1
  have HW2 := Lib.hid hw2
  clear h1 h2 hw1 hw2 b1 b2 n1 n2 m2 b12 hbl
  go_enter Tryz.func14, Tryz.ntmps14
  go_wp2_with (first | (rw [HW1.out]) | (rw [HW2.out]) | fail)
  go_ret
  exact ⟨rfl, HB.out⟩

theorem u64_inf : (Tryz.prog.info? 22).map (fun i => (i.zero, i.size, i.bytes)) = some (some (.int .u64 0), 1, 8) := by kernel_rfl
/-- append(told, one). -/
theorem append_told {ops : Array Oper} {rest : List Oper} {o : Oper} {a : Act} {w : World} {Q : Exit → Act → World → Prop} (hgd : o.guard = none) (s x : Operand) (ho : o.op = .call { callee := .builtin .append, args := #[s, x], argTypes := #[35, 35] })
    (base : Nat) (v : Value) (n : Nat) (bs : List Nat) (hs : a.eval s = v) (hown : w.ownsRow base 22 1 v n (bs.map uV))
    (ad : Addr) (c : Nat) (u : Nat) (hx : a.eval x = .slice (some ad) 1 c) (hr : w.cell? ad = some (uV u))
    (hb : n + 1 ≤ 1000000) (hbase : base ≤ w.heap.size)
    (h : ∀ v' w', w'.ownsRow base 22 1 v' (n + 1) ((bs ++ [u]).map uV) → w.grownBy w' v.ownBlock → wpList Tryz.prog ops Q rest (a.put o.dst v') w') : wpList Tryz.prog ops Q (o :: rest) a w := by
  obtain ⟨i0, hi, hz0, hz1, hz2⟩ := info_parts u64_inf
  refine wpList_append_own w hgd s x 35 ho base 22 i0 (.int .u64 0) 1 8 Tryz.underlying35 hi hz0 hz1 hz2 rfl (by decide) v n _ hs hown ad 1 c ([u].map uV) hx (by simp) (fun j y hy => ?_) (fun y hy => ?_) (by unfold maxLen; omega) (by omega) hbase ?_
  · cases j with
    | zero =>
      simp at hy
      subst hy
      have e : ad.add 0 = ad := by unfold Addr.add; split <;> simp_all
      rw [e]
      exact hr
    | succ j => simp at hy
  · simp at hy
    subst hy
    rfl
  · intro v' w' h1 h2 _
    exact h v' w' (by simpa using h1) h2
theorem Tl.own {w : World} {B : Nat} {A : Option Addr} {c : Nat} {told : List Nat} (h : w.ownsRow B 22 1 (.slice A told.length c) told.length (told.map uV)) : Tl w B A told := fun hn => by
  rcases h.2 with ⟨h', _⟩ | ⟨g, _, _, h', _⟩
  · injection h' with _ e _
    omega
  · injection h' with e
    subst e
    refine ⟨g, rfl, (h.lt g rfl).1, (h.lt g rfl).2, fun j v hv => ?_⟩
    have := h.cellAt j (by have := lst_lt hv; omega)
    rw [this, List.getElem?_map, hv]
    rfl
end Go.Proofs.YtbldlidpapdkbaaGreatDoor

/- Layer 14's laws: two heaps side by side; the short ways of HeapCalls (genhc.py). -/
namespace Go.Proofs.YtbldlidpapdkbaaGreatDoor
open Go.RowKit

/-- A block of a type that no heap's are of. -/
def Oth (w : World) (k : Nat) : Prop := ∃ cs ty, w.heap[k]? = some (.cells cs ty (0, 0)) ∧ ty ≠ 72 ∧ ty ≠ 80 ∧ ty ≠ 5
section
variable {B : Nat} {w w' : World} {q g base cap c : Nat} {A : Option Addr} {bs : List UInt8} {H H' : Hp} {k : Nat}
theorem PH.oth (h : PH w q g base cap A c bs H) (ho : Oth w k) : ¬ (k = q ∨ foot g A k) := by
  obtain ⟨cs, ty, hk, n1, n2, n3⟩ := ho
  rintro (rfl | rfl | ⟨a, ea, rfl⟩)
  · have h1 := h.obj
    rw [hk] at h1
    injection h1 with h1
    injection h1 with _ h2 _
    exact n1 h2
  · have h1 := h.ar.obj
    rw [hk] at h1
    injection h1 with h1
    injection h1 with _ h2 _
    exact n2 h2
  · obtain ⟨h', e, cur, hg, _⟩ := h.ar.row ea
    subst e
    rw [hk] at hg
    injection hg with hg
    injection hg with _ h2 _
    exact n3 h2
theorem PH.keepO (h : PH w q g base cap A c bs H) {S : Nat → Prop} (ht : Tch S w w') (hS : ∀ k, (k = q ∨ foot g A k) → ¬ S k) : PH w' q g base cap A c bs H :=
  ⟨(ht.block q h.lt (hS q (.inl rfl))).trans h.obj, h.ar.tch ht (fun k hk => hS k (.inr hk)), h.rd, h.cp, h.c16, h.b62⟩
theorem Hv.keepO (h : Hv B w q g base cap A c bs H) {S : Nat → Prop} (ht : Tch S w w') (hS : ∀ k, (k = q ∨ foot g A k) → ¬ S k) : Hv B w' q g base cap A c bs H := ⟨h.ph.keepO ht hS, h.qB, h.gB, h.aB⟩
/-- What is of another type stays where the heap changes. -/
theorem PH.locO (h : PH w q g base cap A c bs H) (ht : Tch (foot g A) w w') {cs : Array Value} {ty : TypeId} (hk : w.heap[k]? = some (.cells cs ty (0, 0))) (n1 : ty ≠ 72) (n2 : ty ≠ 80) (n3 : ty ≠ 5) : w'.heap[k]? = some (.cells cs ty (0, 0)) :=
  (ht.block k (heap_lt hk) (fun hf => h.oth ⟨cs, ty, hk, n1, n2, n3⟩ (.inr hf))).trans hk
theorem PH.ownO (h : PH w q g base cap A c bs H) (ht : Tch (foot g A) w w') {n : Nat} {ty : TypeId} {v : Value} {xs : List Value} (ho : w.ownsRow B ty 1 v n xs) (n1 : ty ≠ 72) (n2 : ty ≠ 80) (n3 : ty ≠ 5) : w'.ownsRow B ty 1 v n xs := by
  refine ⟨ho.1, ?_⟩
  rcases ho.2 with h2 | ⟨g', cap', cur, hv, hg, hh, r⟩
  · exact .inl h2
  · exact .inr ⟨g', cap', cur, hv, hg, h.locO ht hh n1 n2 n3, r⟩
end
/-- Two heaps side by side. -/
structure Tw (B : Nat) (w : World) (cap q1 g1 : Nat) (A1 : Option Addr) (c1 : Nat) (b1 : List UInt8) (H1 : Hp) (q2 g2 : Nat) (A2 : Option Addr) (c2 : Nat) (b2 : List UInt8) (H2 : Hp) : Prop where
  h1 : Hv B w q1 g1 0 cap A1 c1 b1 H1
  h2 : Hv B w q2 g2 16 cap A2 c2 b2 H2
  dj : ∀ k, (k = q1 ∨ foot g1 A1 k) → ¬ (k = q2 ∨ foot g2 A2 k)
section
variable {B : Nat} {w w' : World} {cap q1 g1 c1 q2 g2 c2 : Nat} {A1 A2 : Option Addr} {b1 b2 : List UInt8} {H1 H2 H' : Hp}
theorem Tw.below (h : Tw B w cap q1 g1 A1 c1 b1 H1 q2 g2 A2 c2 b2 H2) (hb : Below w.heap.size w w') : Tw B w' cap q1 g1 A1 c1 b1 H1 q2 g2 A2 c2 b2 H2 := ⟨h.h1.below hb, h.h2.below hb, h.dj⟩
theorem Hv.own_lt {q g base c : Nat} {A : Option Addr} {bs : List UInt8} {H : Hp} (h : Hv B w q g base cap A c bs H) {k : Nat} (hk : k = q ∨ foot g A k) : k < w.heap.size := by
  rcases hk with rfl | hk
  · exact h.ph.lt
  · exact h.ph.ar.foot_lt hk
theorem Tw.one (h : Tw B w cap q1 g1 A1 c1 b1 H1 q2 g2 A2 c2 b2 H2) (hB : B ≤ w.heap.size) (ht : PTurn g1 0 cap A1 H' w w') (hc : H'.cap = cap) : ∃ A1' c1' b1', Tw B w' cap q1 g1 A1' c1' b1' H' q2 g2 A2 c2 b2 H2 ∧ Tch (foot g1 A1) w w' := by
  obtain ⟨A', c', bs', v, t, k⟩ := h.h1.turn hB ht hc
  refine ⟨A', c', bs', ⟨v, h.h2.keepO t (fun k hk hf => h.dj k (.inr hf) hk), fun k hk hk2 => ?_⟩, t⟩
  rcases hk with rfl | rfl | ⟨a, e, rfl⟩
  · exact h.dj _ (.inl rfl) hk2
  · exact h.dj _ (.inr (.inl rfl)) hk2
  · rcases k with k | k
    · exact h.dj _ (.inr (.inr ⟨a, k ▸ e, rfl⟩)) hk2
    · have h3 := k a e
      have h4 := h.h2.own_lt hk2
      omega
theorem Tw.two (h : Tw B w cap q1 g1 A1 c1 b1 H1 q2 g2 A2 c2 b2 H2) (hB : B ≤ w.heap.size) (ht : PTurn g2 16 cap A2 H' w w') (hc : H'.cap = cap) : ∃ A2' c2' b2', Tw B w' cap q1 g1 A1 c1 b1 H1 q2 g2 A2' c2' b2' H' ∧ Tch (foot g2 A2) w w' := by
  obtain ⟨A', c', bs', v, t, k⟩ := h.h2.turn hB ht hc
  refine ⟨A', c', bs', ⟨h.h1.keepO t (fun k hk hf => h.dj k hk (.inr hf)), v, fun k hk hk2 => ?_⟩, t⟩
  rcases hk2 with rfl | rfl | ⟨a, e, rfl⟩
  · exact h.dj _ hk (.inl rfl)
  · exact h.dj _ hk (.inr (.inl rfl))
  · rcases k with k | k
    · exact h.dj _ hk (.inr (.inr ⟨a, k ▸ e, rfl⟩))
    · have h3 := k a e
      have h4 := h.h1.own_lt hk
      omega
theorem Tw.tchO (h : Tw B w cap q1 g1 A1 c1 b1 H1 q2 g2 A2 c2 b2 H2) {S : Nat → Prop} (ht : Tch S w w') (hS : ∀ k, S k → Oth w k) : Tw B w' cap q1 g1 A1 c1 b1 H1 q2 g2 A2 c2 b2 H2 :=
  ⟨h.h1.keepO ht (fun k hk hs => h.h1.ph.oth (hS k hs) hk), h.h2.keepO ht (fun k hk hs => h.h2.ph.oth (hS k hs) hk), h.dj⟩
end
section
variable {H : Hp}
theorem get_code (n : Nat) (x : UInt8) : (H.get n x).1.2 = 0 ∨ (H.get n x).1.2 = 5 := by
  unfold Hp.get
  split
  · exact .inr rfl
  · split
    · exact .inr rfl
    · exact .inl rfl
theorem calloc_code (n m : Nat) : (H.calloc n m).1.2 = 0 ∨ (H.calloc n m).1.2 = 5 := by
  unfold Hp.calloc
  split
  · exact .inr rfl
  · exact get_code _ _
theorem realloc_code (p n : Nat) : 0 ≤ (H.realloc p n).1.2 ∧ (H.realloc p n).1.2 ≤ 10 := by
  unfold Hp.realloc
  split
  · exact ⟨by dsimp only; omega, by dsimp only; omega⟩
  · split
    · exact ⟨by dsimp only; omega, by dsimp only; omega⟩
    · split
      · exact ⟨by dsimp only; omega, by dsimp only; omega⟩
      · rename_i he
        rcases (resize_zero H _ _ he).2.2 with e | e
        · dsimp only; rw [e]; omega
        · dsimp only; rw [e]; omega
theorem freeP_code (p : Nat) : 0 ≤ (H.freeP p).1 ∧ (H.freeP p).1 ≤ 10 := by
  unfold Hp.freeP
  split <;> exact ⟨by dsimp only; omega, by dsimp only; omega⟩
theorem usableP_code (p : Nat) : 0 ≤ (H.usableP p).2 ∧ (H.usableP p).2 ≤ 10 := by
  unfold Hp.usableP
  split <;> exact ⟨by dsimp only; omega, by dsimp only; omega⟩
theorem readP_code (p a n : Nat) : 0 ≤ (H.readP p a n).2 ∧ (H.readP p a n).2 ≤ 10 := by
  unfold Hp.readP
  split
  · exact ⟨by dsimp only; omega, by dsimp only; omega⟩
  · split <;> exact ⟨by dsimp only; omega, by dsimp only; omega⟩
theorem writeP_code (p a : Nat) (b : List UInt8) : 0 ≤ (H.writeP p a b).1 ∧ (H.writeP p a b).1 ≤ 10 := by
  unfold Hp.writeP
  split
  · exact ⟨by dsimp only; omega, by dsimp only; omega⟩
  · split <;> exact ⟨by dsimp only; omega, by dsimp only; omega⟩
theorem code_any (w : World) (k : Int) (h : 0 ≤ k ∧ k ≤ 10) : Calls Tryz.prog 8 #[errN k] w fun e w' => e = .returned (.int .i64 k) ∧ w = w' := by
  unfold errN
  split
  · rename_i h0
    subst h0
    exact code_nil w
  · obtain ⟨n, rfl⟩ : ∃ n : Nat, k = (n : Int) := ⟨k.toNat, by omega⟩
    exact code_err w n (by omega) (by omega)
theorem wrap_le {a b : Int} (h : a = 0 ∨ a = b) (hb : 0 ≤ b ∧ b ≤ 10) : 0 ≤ a ∧ a ≤ 10 := by omega
end

set_option maxRecDepth 100000 in
set_option maxHeartbeats 1000000 in
theorem hc_bad (w : World) (cap : Int) (hc : -9223372036854775808 ≤ cap ∧ cap ≤ 9223372036854775807) (hb : cap < 1024 ∨ 16384 < cap) (A : Option Addr) (n k : Nat) :
    Calls Tryz.prog 4 #[.int .i64 cap, .slice A n k] w fun e w' => e = .returned (.bool true) ∧ Below w.heap.size w w' := by
  have HUP := Lib.hid (up14_any w)
  have HN := Lib.hid (fun W => hnew_bad W 0 (by omega) cap hc (.inr (.inr hb)))
  have HN2 := Lib.hid (fun W => hnew_bad W 16 (by omega) cap hc (.inr (.inr hb)))
  go_enter Tryz.func4, Tryz.ntmps4
  go_wp2_with fail
  refine HUP.out.mono ?_
  rintro e w1 ⟨rfl, hb1⟩
  have HB := Lib.hid hb1
  clear hb1 HUP
  go_wp2_with fail
  refine (HN.out w1).mono ?_
  rintro e w2 ⟨rfl, rfl⟩
  go_wp2_with fail
  refine (HN2.out w1).mono ?_
  rintro e w2 ⟨rfl, rfl⟩
  dsimp only [errN_1]
  rcases hb with h | h
  · have g1 : decide ((1024 : Int) ≤ cap) = false := decide_eq_false (by omega)
    go_wp2_with fail
    refine wp_region_tail w1.heap.size [] [0, 1, 2, 3, 4, 5, 6, 7, 8, 9, 10, 11, 12, 13, 14, 15, 16, 17, 18, 19] [] (by kernel_rfl) (by kernel_rfl) (by kernel_rfl) (fun _ _ _ _ _ h => h) ?_
    refine tail_last (l := ?ra) (t := []) ?hra ?tra ?_
    case hra => simp only [pick, List.getElem?_toArray, List.getElem?_cons_succ, List.getElem?_cons_zero]; rfl
    case tra => rfl
    repeat (go_big_quiet_step (fail))
    refine wpQuiet_nil ?_
    go_wp2
    go_ret
    exact ⟨rfl, HB.out.drew⟩
  · have g1 : decide ((1024 : Int) ≤ cap) = true := decide_eq_true (by omega)
    have g2 : decide (cap ≤ (16384 : Int)) = false := decide_eq_false (by omega)
    go_wp2_with fail
    refine wp_region_tail w1.heap.size [] [0, 1, 2, 3, 4, 5, 6, 7, 8, 9, 10, 11, 12, 13, 14, 15, 16, 17, 18, 19] [] (by kernel_rfl) (by kernel_rfl) (by kernel_rfl) (fun _ _ _ _ _ h => h) ?_
    refine tail_last (l := ?rb) (t := []) ?hrb ?trb ?_
    case hrb => simp only [pick, List.getElem?_toArray, List.getElem?_cons_succ, List.getElem?_cons_zero]; rfl
    case trb => rfl
    repeat (go_big_quiet_step (fail))
    refine wpQuiet_nil ?_
    go_wp2
    go_ret
    exact ⟨rfl, HB.out.drew⟩
set_option maxRecDepth 100000 in
set_option maxHeartbeats 1000000 in
theorem hc_long (w : World) (cap : Nat) (h1 : 1024 ≤ cap) (h2 : cap ≤ 16384) (A : Option Addr) (k : Nat) (l : List Cl) (hL : ClRd w w.heap.size A l) (hm : l.length ≤ maxLen) (hs : smallC l 60 = false) :
    Calls Tryz.prog 4 #[.int .i64 (cap : Int), .slice A l.length k] w fun e w' => e = .returned (.bool true) ∧ Below w.heap.size w w' := by
  unfold maxLen at hm
  have HUP := Lib.hid (up14_any w)
  have HN := Lib.hid (fun W => hnew_good W 0 cap (by omega) (by omega) h1 h2)
  have HN2 := Lib.hid (fun W => hnew_good W 16 cap (by omega) (by omega) h1 h2)
  have hsm := fun W (hb : Below w.heap.size w W) => small_any W A k l ((fun hn => by
    obtain ⟨b, o, e, hB, hc⟩ := (hL.below hb) hn
    exact ⟨b, o, e, Nat.lt_of_lt_of_le hB hb.size, fun j x hx => by
      obtain ⟨y1, y2, y3⟩ := hc j x hx
      exact ⟨y1, y2.more hb.size, y3⟩⟩ : ClRd W W.heap.size A l)) (by omega) 60 (by omega)
  rw [hs] at hsm
  have HSM := Lib.hid hsm
  obtain ⟨n, hn⟩ : ∃ n, l.length = n := ⟨_, rfl⟩
  rw [hn] at HSM hm ⊢
  clear hsm hs hL hn
  go_enter Tryz.func4, Tryz.ntmps4
  go_wp2_with fail
  refine HUP.out.mono ?_
  rintro e w1 ⟨rfl, hb1⟩
  have HB := Lib.hid hb1
  clear hb1 HUP
  go_wp2_with fail
  refine (HN.out w1).mono ?_
  intro e w2 hm2
  obtain ⟨q1, g1, A1, c1, b1, rfl, hv1, hb2⟩ := hm2.hv
  have HB2 := Lib.hid (HB.out.trans (hb2.mono HB.out.size))
  clear hm2 hv1 hb2 HB
  go_wp2_with fail
  refine (HN2.out w2).mono ?_
  intro e w3 hm3
  obtain ⟨q2, g2, A2, c2, b2, rfl, hv2, hb3⟩ := hm3.hv
  have HB3 := Lib.hid (HB2.out.trans (hb3.mono HB2.out.size))
  clear hm3 hv2 hb3 HB2
  go_wp2_with fail
  refine (HSM.out w3 HB3.out).mono ?_
  rintro e w4 ⟨rfl, rfl⟩
  have g1 : decide ((1024 : Int) ≤ (cap : Int)) = true := decide_eq_true (by omega)
  have g2 : decide ((cap : Int) ≤ (16384 : Int)) = true := decide_eq_true (by omega)
  go_wp2_with fail
  refine wp_region_tail w3.heap.size [] [0, 1, 2, 3, 4, 5, 6, 7, 8, 9, 10, 11, 12, 13, 14, 15, 16, 17, 18, 19] [] (by kernel_rfl) (by kernel_rfl) (by kernel_rfl) (fun _ _ _ _ _ h => h) ?_
  refine tail_last (l := ?rc) (t := []) ?hrc ?trc ?_
  case hrc => simp only [pick, List.getElem?_toArray, List.getElem?_cons_succ, List.getElem?_cons_zero]; rfl
  case trc => rfl
  repeat (go_big_quiet_step (fail))
  refine wpQuiet_nil ?_
  go_wp2
  go_ret
  exact ⟨rfl, HB3.out.drew⟩
section
variable {bs : List UInt8} {H : Hp}
theorem get_lt (h : RtD bs H) (hc : H.cap ≤ 16384) (n : Nat) (x : UInt8) : (H.get n x).1.1 < 18446744073709551616 := by
  unfold Hp.get
  cases hs : needN n with
  | none => exact Nat.zero_lt_succ _
  | some s =>
    dsimp only
    cases hq : (H.take s).1 with
    | none => exact Nat.zero_lt_succ _
    | some o =>
      dsimp only
      obtain ⟨y, y1, y2, y3, y4, y5, y6⟩ := h.rt.what (need_sz hs) hq
      have hok := (h.rt.ok hc h.dl).take hc (need_sz hs)
      have hm := (tile_mem _ _ _ hok.tl).2 y y1
      have := hok.le
      omega
theorem calloc_lt (h : RtD bs H) (hc : H.cap ≤ 16384) (n m : Nat) : (H.calloc n m).1.1 < 18446744073709551616 := by
  unfold Hp.calloc
  split
  · exact Nat.zero_lt_succ _
  · exact get_lt h hc _ _
theorem realloc_lt (h : RtD bs H) (hc : H.cap ≤ 16384) (p n : Nat) : (H.realloc p n).1.1 < 18446744073709551616 := by
  unfold Hp.realloc
  split
  · exact Nat.zero_lt_succ _
  · cases hs : needN n with
    | none => exact Nat.zero_lt_succ _
    | some s =>
      dsimp only
      split
      · rename_i he
        dsimp only
        rcases resize_place he with e | e
        · rename_i hh
          obtain ⟨h8, h2, _⟩ := handle_used hh
          omega
        · obtain ⟨y, y1, y2, y3, y4, y5, y6⟩ := h.rt.what (need_sz hs) e
          have hok := (h.rt.ok hc h.dl).take hc (need_sz hs)
          have hm := (tile_mem _ _ _ hok.tl).2 y y1
          have := hok.le
          omega
      · exact Nat.zero_lt_succ _
end
theorem own_oth {w : World} {B n c : Nat} {A : Option Addr} {xs : List Value} (h : w.ownsRow B 22 1 (.slice A n c) n xs) {k : Nat} (hk : (Value.slice A n c).ownBlock = some k) : Oth w k := by
  rcases h.2 with ⟨h', _⟩ | ⟨g', cap', cur, hv, hg, hh, r⟩
  · injection h' with e _ _
    subst e
    cases hk
  · injection hv with e _ _
    subst e
    have e2 : g' = k := by simpa [Value.ownBlock] using hk
    subst e2
    exact ⟨_, _, hh, by decide, by decide, by decide⟩

end Go.Proofs.YtbldlidpapdkbaaGreatDoor
