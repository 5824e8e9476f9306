/- Texts of mine, joined: Law12c, Law12d, Law12e, Law12f, OpenD. -/
import Derived.Test.YtbemaoncakcnjaaGreatM10

/- The laws' word of layer 12: Same. -/
namespace Go.Proofs.YtbemaoncakcnjaaGreat
open Go.RowKit

section
variable {wB W : World} {g base cap c p : Nat} {A : Option Addr} {bs : List UInt8} {F : Nat → Prop} {H : Hp}
end
end Go.Proofs.YtbemaoncakcnjaaGreat

/- The laws' word of layer 12: Do. -/
namespace Go.Proofs.YtbemaoncakcnjaaGreat
open Go.RowKit

/-- What a deed leaves. -/
def Did (wB : World) (g base cap p : Nat) (e : Ending) (w' : World) : Prop :=
  e = .returned (.int .i64 1) ∧ ∃ A c bs F H, Al wB w' g base cap A c bs F p H ∧ Rt bs H ∧ H.Dl ∧ H.cap = cap
def oN (H : Hp) (n : Int) (raw : Bool) : Int := if raw = true then n else ((usedN H.blks n : Nat) : Int)
theorem usedN_le {H : Hp} (hok : H.Ok) (n : Int) : usedN H.blks n ≤ 16384 := by
  unfold usedN
  rw [List.getD_eq_getElem?_getD]
  cases h : (usedL H.blks)[(n % ((usedL H.blks).length : Int)).toNat]? with
  | none => exact Nat.zero_le _
  | some y =>
    have hm := List.mem_of_getElem? h
    unfold usedL at hm
    obtain ⟨x, hx, rfl⟩ := List.mem_map.1 hm
    have h1 := (tile_mem _ _ _ hok.tl).2 x (List.mem_filter.1 hx).1
    have h2 := hok.le
    show x.off ≤ 16384
    omega
theorem oN_ok {H : Hp} (hok : H.Ok) (n : Int) (raw : Bool) (hn : -9223372036854775808 ≤ n ∧ n ≤ 9223372036854775807) : -9223372036854775808 ≤ oN H n raw ∧ oN H n raw ≤ 9223372036854775807 := by
  unfold oN
  split
  · exact hn
  · have := usedN_le hok n
    omega
theorem sizeN_ok (n : Int) (raw : Bool) (hn : -9223372036854775808 ≤ n ∧ n ≤ 9223372036854775807) : -9223372036854775808 ≤ sizeN n raw ∧ sizeN n raw ≤ 9223372036854775807 := by
  unfold sizeN
  split
  · exact hn
  · omega
theorem is_nat {s : Int} (h : isSz s = true) : s = ((s.toNat : Nat) : Int) := by
  have := (isSz_iff _).1 h
  omega
theorem did_of {wB w' : World} {g base cap c p : Nat} {A : Option Addr} {bs : List UInt8} {F : Nat → Prop} {H : Hp} (a : Al wB w' g base cap A c bs F p H) (rt : Rt bs H) (hd : H.Dl) (hc : H.cap = cap) : Did wB g base cap p (.returned (.int .i64 1)) w' := ⟨rfl, A, c, bs, F, H, a, rt, hd, hc⟩
theorem take_none_same {H : Hp} {s : Nat} (h : (H.take s).1 = none) : (H.take s).2 = H := by
  unfold Hp.take at h ⊢
  split
  · rename_i hf; rw [hf] at h; cases h
  · rename_i hf
    rw [hf] at h
    dsimp only at h ⊢
    split
    · rfl
    · rename_i hr
      rw [if_neg hr] at h
      split at h <;> cases h
section
variable {wB W : World} {g base cap c p : Nat} {A : Option Addr} {bs : List UInt8} {F : Nat → Prop} {H : Hp}

set_option maxRecDepth 100000 in
set_option maxHeartbeats 2000000 in
theorem ldo_r3n (HK : GiveK) (a : Al wB W g base cap A c bs F p H) (rt : Rt bs H) (hcap : H.cap = cap) (hbase : base ≤ 4611686018427387904) (hc16 : cap ≤ 16384) (hd : H.Dl) (what n m : Int) (hn : -9223372036854775808 ≤ n ∧ n ≤ 9223372036854775807) (hk : (what % ((6 : Nat) : Int)).toNat = 3) (hx : H.giveO (oN H n true) = none) :
    Calls Tryz.prog 13 #[.pointer (some ⟨g, 0, none⟩), .pointer (some ⟨p, 0, none⟩), .agg #[.int .i64 what, .int .i64 n, .int .i64 m, .bool true]] W fun e w' => Did wB g base cap p e w' := by
  have hok := rt.ok (hcap ▸ hc16) hd
  have hn512 := hok.n
  have ho := oN_ok hok n true hn
  obtain ⟨w0, hw0⟩ : ∃ w0, W.alloc (.cells #[.int .i64 what, .int .i64 n, .int .i64 m, .bool true] 46) = w0 := ⟨_, rfl⟩
  have hb0 : Below W.heap.size W w0 := by rw [← hw0]; exact (Below.refl _ _).alloc (Nat.le_refl _) _
  obtain ⟨gd, hgd⟩ : ∃ gd, W.heap.size = gd := ⟨_, rfl⟩
  have hnd : w0.heap[gd]? = some (.cells #[.int .i64 what, .int .i64 n, .int .i64 m, .bool true] 46 (0, 0)) := by rw [← hw0, ← hgd]; exact heap_alloc_new W _
  have hgdlt := heap_lt hnd
  have a0 := a.below hb0
  obtain ⟨Vb, Vd, gl, cs, hmm⟩ := a0.hm
  have HPK := Lib.hid (fun w => lpick_any what 6 w (by omega) (by omega) _ hk)
  obtain ⟨o, hO⟩ : ∃ o, oN H n true = o := ⟨_, rfl⟩
  rw [hO] at ho
  have hO2 : o = n := hO.symm
  subst hO2
  rw [hO] at hx
  have r0 : w0.cell? ⟨gd, 0, none⟩ = some (.int .i64 what) := by rw [cell_of_row w0 gd 0 _ _ (0, 0) hnd]; rfl
  have r1 : w0.cell? ⟨gd, 1, none⟩ = some (.int .i64 o) := by rw [cell_of_row w0 gd 1 _ _ (0, 0) hnd]; rfl
  have r2 : w0.cell? ⟨gd, 2, none⟩ = some (.int .i64 m) := by rw [cell_of_row w0 gd 2 _ _ (0, 0) hnd]; rfl
  have r3 : w0.cell? ⟨gd, 3, none⟩ = some (.bool true) := by rw [cell_of_row w0 gd 3 _ _ (0, 0) hnd]; rfl
  have HA0 := Lib.hid a0
  have HRT := Lib.hid rt
  have HOK := Lib.hid hok
  have HDL := Lib.hid hd
  have HCAP := Lib.hid hcap
  have HW0 := Lib.hid hw0
  have HGD := Lib.hid hgd
  have HKK := Lib.hid HK
  have HX := Lib.hid hx
  clear hx
  clear a a0 hmm rt hok hd hcap hw0 hgd hnd hb0 hO hk HK
  go_enter Tryz.func13, Tryz.ntmps13
  go_wp2_with (first | (rw [HW0.out, HGD.out]) | fail)
  have A1 := Lib.hid HA0.out
  generalize w0 = w1 at *
  refine (HPK.out _).mono ?_
  rintro e w2 ⟨rfl, rfl⟩
  clear HPK HA0 HW0 HGD
  go_wp2_with fail
  refine (HKK.out w1 g base cap c A bs H o A1.out.st.ar hbase hc16 HCAP.out HRT.out ho).mono ?_
  intro e w3 hT
  rw [HX.out] at hT
  obtain ⟨rfl, hb⟩ := hT
  have A3 := Lib.hid (A1.out.below hb)
  clear hb A1
  dsimp only [errV]
  go_wp2_with fail
  refine (code_err _ 3 (by omega) (by omega)).mono ?_
  rintro e w9 ⟨rfl, rfl⟩
  obtain ⟨Vb, Vd, gl, cs, hmm⟩ := A3.out.hm
  have HGV := Lib.hid (hGive_any hmm HOK.out 1024 HRT.out.few (by omega) o ho)
  clear hmm
  go_wp2_with fail
  refine HGV.out.mono ?_
  rintro e w10 ⟨rfl, ht⟩
  rw [HX.out] at ht ⊢
  obtain ⟨F4, a4⟩ := A3.out.turn ht
  have A4 := Lib.hid a4
  clear a4 ht HGV A3
  dsimp only [badV, Option.isSome]
  go_wp2
  go_ret
  exact did_of A4.out HRT.out HDL.out HCAP.out

set_option maxRecDepth 100000 in
set_option maxHeartbeats 2000000 in
theorem ldo_r3s (HK : GiveK) (a : Al wB W g base cap A c bs F p H) (rt : Rt bs H) (hcap : H.cap = cap) (hbase : base ≤ 4611686018427387904) (hc16 : cap ≤ 16384) (hd : H.Dl) (what n m : Int) (hn : -9223372036854775808 ≤ n ∧ n ≤ 9223372036854775807) (hk : (what % ((6 : Nat) : Int)).toNat = 3) (H2 : Hp) (hx : H.giveO (oN H n true) = some H2) :
    Calls Tryz.prog 13 #[.pointer (some ⟨g, 0, none⟩), .pointer (some ⟨p, 0, none⟩), .agg #[.int .i64 what, .int .i64 n, .int .i64 m, .bool true]] W fun e w' => Did wB g base cap p e w' := by
  have hok := rt.ok (hcap ▸ hc16) hd
  have hn512 := hok.n
  have ho := oN_ok hok n true hn
  obtain ⟨w0, hw0⟩ : ∃ w0, W.alloc (.cells #[.int .i64 what, .int .i64 n, .int .i64 m, .bool true] 46) = w0 := ⟨_, rfl⟩
  have hb0 : Below W.heap.size W w0 := by rw [← hw0]; exact (Below.refl _ _).alloc (Nat.le_refl _) _
  obtain ⟨gd, hgd⟩ : ∃ gd, W.heap.size = gd := ⟨_, rfl⟩
  have hnd : w0.heap[gd]? = some (.cells #[.int .i64 what, .int .i64 n, .int .i64 m, .bool true] 46 (0, 0)) := by rw [← hw0, ← hgd]; exact heap_alloc_new W _
  have hgdlt := heap_lt hnd
  have a0 := a.below hb0
  obtain ⟨Vb, Vd, gl, cs, hmm⟩ := a0.hm
  have HPK := Lib.hid (fun w => lpick_any what 6 w (by omega) (by omega) _ hk)
  obtain ⟨o, hO⟩ : ∃ o, oN H n true = o := ⟨_, rfl⟩
  rw [hO] at ho
  have hO2 : o = n := hO.symm
  subst hO2
  rw [hO] at hx
  have r0 : w0.cell? ⟨gd, 0, none⟩ = some (.int .i64 what) := by rw [cell_of_row w0 gd 0 _ _ (0, 0) hnd]; rfl
  have r1 : w0.cell? ⟨gd, 1, none⟩ = some (.int .i64 o) := by rw [cell_of_row w0 gd 1 _ _ (0, 0) hnd]; rfl
  have r2 : w0.cell? ⟨gd, 2, none⟩ = some (.int .i64 m) := by rw [cell_of_row w0 gd 2 _ _ (0, 0) hnd]; rfl
  have r3 : w0.cell? ⟨gd, 3, none⟩ = some (.bool true) := by rw [cell_of_row w0 gd 3 _ _ (0, 0) hnd]; rfl
  have HA0 := Lib.hid a0
  have HRT := Lib.hid rt
  have HOK := Lib.hid hok
  have HDL := Lib.hid hd
  have HCAP := Lib.hid hcap
  have HW0 := Lib.hid hw0
  have HGD := Lib.hid hgd
  have HKK := Lib.hid HK
  have HX := Lib.hid hx
  clear hx
  clear a a0 hmm rt hok hd hcap hw0 hgd hnd hb0 hO hk HK
  go_enter Tryz.func13, Tryz.ntmps13
  go_wp2_with (first | (rw [HW0.out, HGD.out]) | fail)
  have A1 := Lib.hid HA0.out
  generalize w0 = w1 at *
  refine (HPK.out _).mono ?_
  rintro e w2 ⟨rfl, rfl⟩
  clear HPK HA0 HW0 HGD
  go_wp2_with fail
  refine (HKK.out w1 g base cap c A bs H o A1.out.st.ar hbase hc16 HCAP.out HRT.out ho).mono ?_
  intro e w3 hT
  rw [HX.out] at hT
  obtain ⟨rfl, out, hbe, rt2, _⟩ := hT
  obtain ⟨A3', c3, a3⟩ := A1.out.became hbe
  have A3 := Lib.hid a3
  have RT2 := Lib.hid rt2
  clear hbe a3 rt2 A1
  dsimp only [errV]
  go_wp2_with fail
  refine (code_nil _).mono ?_
  rintro e w9 ⟨rfl, rfl⟩
  obtain ⟨Vb, Vd, gl, cs, hmm⟩ := A3.out.hm
  have HGV := Lib.hid (hGive_any hmm HOK.out 1024 HRT.out.few (by omega) o ho)
  clear hmm
  go_wp2_with fail
  refine HGV.out.mono ?_
  rintro e w10 ⟨rfl, ht⟩
  rw [HX.out] at ht ⊢
  obtain ⟨F4, a4⟩ := A3.out.turn ht
  have A4 := Lib.hid a4
  clear a4 ht HGV A3
  dsimp only [badV, Option.isSome]
  go_wp2
  go_ret
  exact did_of A4.out RT2.out (HDL.out.giveO HX.out) ((giveO_cap HX.out).trans HCAP.out)

set_option maxRecDepth 100000 in
set_option maxHeartbeats 2000000 in
theorem ldo_r4a (HK : TrimK) (a : Al wB W g base cap A c bs F p H) (rt : Rt bs H) (hcap : H.cap = cap) (hbase : base ≤ 4611686018427387904) (hc16 : cap ≤ 16384) (hd : H.Dl) (what n m : Int) (hn : -9223372036854775808 ≤ n ∧ n ≤ 9223372036854775807) (hm : -9223372036854775808 ≤ m ∧ m ≤ 9223372036854775807) (hk : (what % ((6 : Nat) : Int)).toNat = 4) (hs : isSz (sizeN m true) = false) :
    Calls Tryz.prog 13 #[.pointer (some ⟨g, 0, none⟩), .pointer (some ⟨p, 0, none⟩), .agg #[.int .i64 what, .int .i64 n, .int .i64 m, .bool true]] W fun e w' => Did wB g base cap p e w' := by
  have hok := rt.ok (hcap ▸ hc16) hd
  have hn512 := hok.n
  have ho := oN_ok hok n true hn
  obtain ⟨w0, hw0⟩ : ∃ w0, W.alloc (.cells #[.int .i64 what, .int .i64 n, .int .i64 m, .bool true] 46) = w0 := ⟨_, rfl⟩
  have hb0 : Below W.heap.size W w0 := by rw [← hw0]; exact (Below.refl _ _).alloc (Nat.le_refl _) _
  obtain ⟨gd, hgd⟩ : ∃ gd, W.heap.size = gd := ⟨_, rfl⟩
  have hnd : w0.heap[gd]? = some (.cells #[.int .i64 what, .int .i64 n, .int .i64 m, .bool true] 46 (0, 0)) := by rw [← hw0, ← hgd]; exact heap_alloc_new W _
  have hgdlt := heap_lt hnd
  have a0 := a.below hb0
  obtain ⟨Vb, Vd, gl, cs, hmm⟩ := a0.hm
  have HPK := Lib.hid (fun w => lpick_any what 6 w (by omega) (by omega) _ hk)
  have hsb := sizeN_ok m true hm
  have HSZ := Lib.hid (fun w => lsize_any w m hm true)
  obtain ⟨o, hO⟩ : ∃ o, oN H n true = o := ⟨_, rfl⟩
  rw [hO] at ho
  have hO2 : o = n := hO.symm
  subst hO2
  obtain ⟨s, hS⟩ : ∃ s, sizeN m true = s := ⟨_, rfl⟩
  rw [hS] at hsb hs HSZ
  obtain ⟨cl, hcl⟩ : ∃ cl, classI s = cl := ⟨_, rfl⟩
  have hcn : cl < 0 := by rw [← hcl]; exact (classI_neg s).2 hs
  have hcb := classI_bounds s
  rw [hcl] at hcb
  have HCL := Lib.hid (fun w => rclass_any w s hsb cl hcl)
  have r0 : w0.cell? ⟨gd, 0, none⟩ = some (.int .i64 what) := by rw [cell_of_row w0 gd 0 _ _ (0, 0) hnd]; rfl
  have r1 : w0.cell? ⟨gd, 1, none⟩ = some (.int .i64 o) := by rw [cell_of_row w0 gd 1 _ _ (0, 0) hnd]; rfl
  have r2 : w0.cell? ⟨gd, 2, none⟩ = some (.int .i64 m) := by rw [cell_of_row w0 gd 2 _ _ (0, 0) hnd]; rfl
  have r3 : w0.cell? ⟨gd, 3, none⟩ = some (.bool true) := by rw [cell_of_row w0 gd 3 _ _ (0, 0) hnd]; rfl
  have HA0 := Lib.hid a0
  have HRT := Lib.hid rt
  have HOK := Lib.hid hok
  have HDL := Lib.hid hd
  have HCAP := Lib.hid hcap
  have HW0 := Lib.hid hw0
  have HGD := Lib.hid hgd
  have HKK := Lib.hid HK
  clear a a0 hmm rt hok hd hcap hw0 hgd hnd hb0 hO hk HK
  have HSA := Lib.hid hs
  clear hS hs
  go_enter Tryz.func13, Tryz.ntmps13
  go_wp2_with (first | (rw [HW0.out, HGD.out]) | fail)
  have A1 := Lib.hid HA0.out
  generalize w0 = w1 at *
  refine (HPK.out _).mono ?_
  rintro e w2 ⟨rfl, rfl⟩
  clear HPK HA0 HW0 HGD
  go_wp2_with fail
  refine (HSZ.out _).mono ?_
  rintro e w3 ⟨rfl, rfl⟩
  go_wp2_with fail
  refine ((HKK.out w1 g base cap c A bs H o s A1.out.st.ar hbase hc16 HCAP.out HRT.out ho hsb).1 HSA.out).mono ?_
  rintro e w4 ⟨rfl, hb⟩
  have A3 := Lib.hid (A1.out.below hb)
  clear hb A1
  dsimp only [errV]
  go_wp2_with fail
  refine (code_err _ 1 (by omega) (by omega)).mono ?_
  rintro e w9 ⟨rfl, rfl⟩
  go_wp2_with fail
  refine (HCL.out _).mono ?_
  rintro e w10 ⟨rfl, rfl⟩
  go_wp2
  go_ret
  exact did_of A3.out HRT.out HDL.out HCAP.out

set_option maxRecDepth 100000 in
set_option maxHeartbeats 2000000 in
theorem ldo_r4n (HK : TrimK) (a : Al wB W g base cap A c bs F p H) (rt : Rt bs H) (hcap : H.cap = cap) (hbase : base ≤ 4611686018427387904) (hc16 : cap ≤ 16384) (hd : H.Dl) (what n m : Int) (hn : -9223372036854775808 ≤ n ∧ n ≤ 9223372036854775807) (hm : -9223372036854775808 ≤ m ∧ m ≤ 9223372036854775807) (hk : (what % ((6 : Nat) : Int)).toNat = 4) (hs : isSz (sizeN m true) = true) (hx : H.trimO (oN H n true) (sizeN m true).toNat = none) :
    Calls Tryz.prog 13 #[.pointer (some ⟨g, 0, none⟩), .pointer (some ⟨p, 0, none⟩), .agg #[.int .i64 what, .int .i64 n, .int .i64 m, .bool true]] W fun e w' => Did wB g base cap p e w' := by
  have hok := rt.ok (hcap ▸ hc16) hd
  have hn512 := hok.n
  have ho := oN_ok hok n true hn
  obtain ⟨w0, hw0⟩ : ∃ w0, W.alloc (.cells #[.int .i64 what, .int .i64 n, .int .i64 m, .bool true] 46) = w0 := ⟨_, rfl⟩
  have hb0 : Below W.heap.size W w0 := by rw [← hw0]; exact (Below.refl _ _).alloc (Nat.le_refl _) _
  obtain ⟨gd, hgd⟩ : ∃ gd, W.heap.size = gd := ⟨_, rfl⟩
  have hnd : w0.heap[gd]? = some (.cells #[.int .i64 what, .int .i64 n, .int .i64 m, .bool true] 46 (0, 0)) := by rw [← hw0, ← hgd]; exact heap_alloc_new W _
  have hgdlt := heap_lt hnd
  have a0 := a.below hb0
  obtain ⟨Vb, Vd, gl, cs, hmm⟩ := a0.hm
  have HPK := Lib.hid (fun w => lpick_any what 6 w (by omega) (by omega) _ hk)
  have hsb := sizeN_ok m true hm
  have HSZ := Lib.hid (fun w => lsize_any w m hm true)
  obtain ⟨o, hO⟩ : ∃ o, oN H n true = o := ⟨_, rfl⟩
  rw [hO] at ho
  have hO2 : o = n := hO.symm
  subst hO2
  rw [hO] at hx
  obtain ⟨s, hS⟩ : ∃ s, sizeN m true = s := ⟨_, rfl⟩
  rw [hS] at hsb hs HSZ hx
  have hsn := is_nat hs
  obtain ⟨t, ht⟩ : ∃ t, s.toNat = t := ⟨_, rfl⟩
  rw [ht] at hsn hx
  subst hsn
  obtain ⟨cl, hcl, hcl22⟩ : ∃ c : Nat, classI (t : Int) = (c : Int) ∧ c < 22 := class_nat (x := ⟨0, t, false⟩) hs
  have hcn : 0 ≤ (cl : Int) := by omega
  have HCL := Lib.hid (fun w => rclass_any w (t : Int) hsb (cl : Int) hcl)
  have HSS := Lib.hid hs
  have r0 : w0.cell? ⟨gd, 0, none⟩ = some (.int .i64 what) := by rw [cell_of_row w0 gd 0 _ _ (0, 0) hnd]; rfl
  have r1 : w0.cell? ⟨gd, 1, none⟩ = some (.int .i64 o) := by rw [cell_of_row w0 gd 1 _ _ (0, 0) hnd]; rfl
  have r2 : w0.cell? ⟨gd, 2, none⟩ = some (.int .i64 m) := by rw [cell_of_row w0 gd 2 _ _ (0, 0) hnd]; rfl
  have r3 : w0.cell? ⟨gd, 3, none⟩ = some (.bool true) := by rw [cell_of_row w0 gd 3 _ _ (0, 0) hnd]; rfl
  have HA0 := Lib.hid a0
  have HRT := Lib.hid rt
  have HOK := Lib.hid hok
  have HDL := Lib.hid hd
  have HCAP := Lib.hid hcap
  have HW0 := Lib.hid hw0
  have HGD := Lib.hid hgd
  have HKK := Lib.hid HK
  have HX := Lib.hid hx
  clear hx
  clear a a0 hmm rt hok hd hcap hw0 hgd hnd hb0 hO hk HK
  clear hS hs ht
  go_enter Tryz.func13, Tryz.ntmps13
  go_wp2_with (first | (rw [HW0.out, HGD.out]) | fail)
  have A1 := Lib.hid HA0.out
  generalize w0 = w1 at *
  refine (HPK.out _).mono ?_
  rintro e w2 ⟨rfl, rfl⟩
  clear HPK HA0 HW0 HGD
  go_wp2_with fail
  refine (HSZ.out _).mono ?_
  rintro e w3 ⟨rfl, rfl⟩
  go_wp2_with fail
  refine ((HKK.out w1 g base cap c A bs H o (t : Int) A1.out.st.ar hbase hc16 HCAP.out HRT.out ho hsb).2 HSS.out).mono ?_
  intro e w4 hT
  rw [Int.toNat_natCast, HX.out] at hT
  obtain ⟨rfl, hb⟩ := hT
  have A3 := Lib.hid (A1.out.below hb)
  clear hb A1
  dsimp only [errV]
  go_wp2_with fail
  refine (code_err _ 3 (by omega) (by omega)).mono ?_
  rintro e w9 ⟨rfl, rfl⟩
  go_wp2_with fail
  refine (HCL.out _).mono ?_
  rintro e w10 ⟨rfl, rfl⟩
  obtain ⟨Vb, Vd, gl, cs, hmm⟩ := A3.out.hm
  have HGV := Lib.hid (hTrim_any hmm HOK.out 1024 HRT.out.few (by omega) o ho t HSS.out)
  clear hmm
  go_wp2_with fail
  refine HGV.out.mono ?_
  rintro e w11 ⟨rfl, ht⟩
  rw [HX.out] at ht ⊢
  obtain ⟨F4, a4⟩ := A3.out.turn ht
  have A4 := Lib.hid a4
  clear a4 ht HGV A3
  dsimp only [badV, Option.isSome]
  go_wp2
  go_ret
  exact did_of A4.out HRT.out HDL.out HCAP.out

set_option maxRecDepth 100000 in
set_option maxHeartbeats 2000000 in
theorem ldo_r4s (HK : TrimK) (a : Al wB W g base cap A c bs F p H) (rt : Rt bs H) (hcap : H.cap = cap) (hbase : base ≤ 4611686018427387904) (hc16 : cap ≤ 16384) (hd : H.Dl) (what n m : Int) (hn : -9223372036854775808 ≤ n ∧ n ≤ 9223372036854775807) (hm : -9223372036854775808 ≤ m ∧ m ≤ 9223372036854775807) (hk : (what % ((6 : Nat) : Int)).toNat = 4) (hs : isSz (sizeN m true) = true) (H2 : Hp) (hx : H.trimO (oN H n true) (sizeN m true).toNat = some H2) :
    Calls Tryz.prog 13 #[.pointer (some ⟨g, 0, none⟩), .pointer (some ⟨p, 0, none⟩), .agg #[.int .i64 what, .int .i64 n, .int .i64 m, .bool true]] W fun e w' => Did wB g base cap p e w' := by
  have hok := rt.ok (hcap ▸ hc16) hd
  have hn512 := hok.n
  have ho := oN_ok hok n true hn
  obtain ⟨w0, hw0⟩ : ∃ w0, W.alloc (.cells #[.int .i64 what, .int .i64 n, .int .i64 m, .bool true] 46) = w0 := ⟨_, rfl⟩
  have hb0 : Below W.heap.size W w0 := by rw [← hw0]; exact (Below.refl _ _).alloc (Nat.le_refl _) _
  obtain ⟨gd, hgd⟩ : ∃ gd, W.heap.size = gd := ⟨_, rfl⟩
  have hnd : w0.heap[gd]? = some (.cells #[.int .i64 what, .int .i64 n, .int .i64 m, .bool true] 46 (0, 0)) := by rw [← hw0, ← hgd]; exact heap_alloc_new W _
  have hgdlt := heap_lt hnd
  have a0 := a.below hb0
  obtain ⟨Vb, Vd, gl, cs, hmm⟩ := a0.hm
  have HPK := Lib.hid (fun w => lpick_any what 6 w (by omega) (by omega) _ hk)
  have hsb := sizeN_ok m true hm
  have HSZ := Lib.hid (fun w => lsize_any w m hm true)
  obtain ⟨o, hO⟩ : ∃ o, oN H n true = o := ⟨_, rfl⟩
  rw [hO] at ho
  have hO2 : o = n := hO.symm
  subst hO2
  rw [hO] at hx
  obtain ⟨s, hS⟩ : ∃ s, sizeN m true = s := ⟨_, rfl⟩
  rw [hS] at hsb hs HSZ hx
  have hsn := is_nat hs
  obtain ⟨t, ht⟩ : ∃ t, s.toNat = t := ⟨_, rfl⟩
  rw [ht] at hsn hx
  subst hsn
  obtain ⟨cl, hcl, hcl22⟩ : ∃ c : Nat, classI (t : Int) = (c : Int) ∧ c < 22 := class_nat (x := ⟨0, t, false⟩) hs
  have hcn : 0 ≤ (cl : Int) := by omega
  have HCL := Lib.hid (fun w => rclass_any w (t : Int) hsb (cl : Int) hcl)
  have HSS := Lib.hid hs
  have r0 : w0.cell? ⟨gd, 0, none⟩ = some (.int .i64 what) := by rw [cell_of_row w0 gd 0 _ _ (0, 0) hnd]; rfl
  have r1 : w0.cell? ⟨gd, 1, none⟩ = some (.int .i64 o) := by rw [cell_of_row w0 gd 1 _ _ (0, 0) hnd]; rfl
  have r2 : w0.cell? ⟨gd, 2, none⟩ = some (.int .i64 m) := by rw [cell_of_row w0 gd 2 _ _ (0, 0) hnd]; rfl
  have r3 : w0.cell? ⟨gd, 3, none⟩ = some (.bool true) := by rw [cell_of_row w0 gd 3 _ _ (0, 0) hnd]; rfl
  have HA0 := Lib.hid a0
  have HRT := Lib.hid rt
  have HOK := Lib.hid hok
  have HDL := Lib.hid hd
  have HCAP := Lib.hid hcap
  have HW0 := Lib.hid hw0
  have HGD := Lib.hid hgd
  have HKK := Lib.hid HK
  have HX := Lib.hid hx
  clear hx
  clear a a0 hmm rt hok hd hcap hw0 hgd hnd hb0 hO hk HK
  clear hS hs ht
  go_enter Tryz.func13, Tryz.ntmps13
  go_wp2_with (first | (rw [HW0.out, HGD.out]) | fail)
  have A1 := Lib.hid HA0.out
  generalize w0 = w1 at *
  refine (HPK.out _).mono ?_
  rintro e w2 ⟨rfl, rfl⟩
  clear HPK HA0 HW0 HGD
  go_wp2_with fail
  refine (HSZ.out _).mono ?_
  rintro e w3 ⟨rfl, rfl⟩
  go_wp2_with fail
  refine ((HKK.out w1 g base cap c A bs H o (t : Int) A1.out.st.ar hbase hc16 HCAP.out HRT.out ho hsb).2 HSS.out).mono ?_
  intro e w4 hT
  rw [Int.toNat_natCast, HX.out] at hT
  obtain ⟨rfl, out, hbe, rt2, _⟩ := hT
  obtain ⟨A3', c3, a3⟩ := A1.out.became hbe
  have A3 := Lib.hid a3
  have RT2 := Lib.hid rt2
  clear hbe a3 rt2 A1
  dsimp only [errV]
  go_wp2_with fail
  refine (code_nil _).mono ?_
  rintro e w9 ⟨rfl, rfl⟩
  go_wp2_with fail
  refine (HCL.out _).mono ?_
  rintro e w10 ⟨rfl, rfl⟩
  obtain ⟨Vb, Vd, gl, cs, hmm⟩ := A3.out.hm
  have HGV := Lib.hid (hTrim_any hmm HOK.out 1024 HRT.out.few (by omega) o ho t HSS.out)
  clear hmm
  go_wp2_with fail
  refine HGV.out.mono ?_
  rintro e w11 ⟨rfl, ht⟩
  rw [HX.out] at ht ⊢
  obtain ⟨F4, a4⟩ := A3.out.turn ht
  have A4 := Lib.hid a4
  clear a4 ht HGV A3
  dsimp only [badV, Option.isSome]
  go_wp2
  go_ret
  exact did_of A4.out RT2.out (HDL.out.trimO HX.out) ((trimO_cap HX.out).trans HCAP.out)

set_option maxRecDepth 100000 in
set_option maxHeartbeats 2000000 in
theorem ldo_r5n (HK : UsedK) (a : Al wB W g base cap A c bs F p H) (rt : Rt bs H) (hcap : H.cap = cap) (hbase : base ≤ 4611686018427387904) (hc16 : cap ≤ 16384) (hd : H.Dl) (what n m : Int) (hn : -9223372036854775808 ≤ n ∧ n ≤ 9223372036854775807) (hk : (what % ((6 : Nat) : Int)).toNat = 5) (hx : usedB H.blks (oN H n true) = none) :
    Calls Tryz.prog 13 #[.pointer (some ⟨g, 0, none⟩), .pointer (some ⟨p, 0, none⟩), .agg #[.int .i64 what, .int .i64 n, .int .i64 m, .bool true]] W fun e w' => Did wB g base cap p e w' := by
  have hok := rt.ok (hcap ▸ hc16) hd
  have hn512 := hok.n
  have ho := oN_ok hok n true hn
  obtain ⟨w0, hw0⟩ : ∃ w0, W.alloc (.cells #[.int .i64 what, .int .i64 n, .int .i64 m, .bool true] 46) = w0 := ⟨_, rfl⟩
  have hb0 : Below W.heap.size W w0 := by rw [← hw0]; exact (Below.refl _ _).alloc (Nat.le_refl _) _
  obtain ⟨gd, hgd⟩ : ∃ gd, W.heap.size = gd := ⟨_, rfl⟩
  have hnd : w0.heap[gd]? = some (.cells #[.int .i64 what, .int .i64 n, .int .i64 m, .bool true] 46 (0, 0)) := by rw [← hw0, ← hgd]; exact heap_alloc_new W _
  have hgdlt := heap_lt hnd
  have a0 := a.below hb0
  obtain ⟨Vb, Vd, gl, cs, hmm⟩ := a0.hm
  have HPK := Lib.hid (fun w => lpick_any what 6 w (by omega) (by omega) _ hk)
  obtain ⟨o, hO⟩ : ∃ o, oN H n true = o := ⟨_, rfl⟩
  rw [hO] at ho
  have hO2 : o = n := hO.symm
  subst hO2
  rw [hO] at hx
  have r0 : w0.cell? ⟨gd, 0, none⟩ = some (.int .i64 what) := by rw [cell_of_row w0 gd 0 _ _ (0, 0) hnd]; rfl
  have r1 : w0.cell? ⟨gd, 1, none⟩ = some (.int .i64 o) := by rw [cell_of_row w0 gd 1 _ _ (0, 0) hnd]; rfl
  have r2 : w0.cell? ⟨gd, 2, none⟩ = some (.int .i64 m) := by rw [cell_of_row w0 gd 2 _ _ (0, 0) hnd]; rfl
  have r3 : w0.cell? ⟨gd, 3, none⟩ = some (.bool true) := by rw [cell_of_row w0 gd 3 _ _ (0, 0) hnd]; rfl
  have HA0 := Lib.hid a0
  have HRT := Lib.hid rt
  have HOK := Lib.hid hok
  have HDL := Lib.hid hd
  have HCAP := Lib.hid hcap
  have HW0 := Lib.hid hw0
  have HGD := Lib.hid hgd
  have HKK := Lib.hid HK
  have HX := Lib.hid hx
  clear hx
  clear a a0 hmm rt hok hd hcap hw0 hgd hnd hb0 hO hk HK
  go_enter Tryz.func13, Tryz.ntmps13
  go_wp2_with (first | (rw [HW0.out, HGD.out]) | fail)
  have A1 := Lib.hid HA0.out
  generalize w0 = w1 at *
  refine (HPK.out _).mono ?_
  rintro e w2 ⟨rfl, rfl⟩
  clear HPK HA0 HW0 HGD
  go_wp2_with fail
  refine (HKK.out w1 g base cap c A bs H o A1.out.st.ar hbase hc16 HCAP.out HRT.out ho).mono ?_
  intro e w3 hT
  rw [HX.out] at hT
  obtain ⟨rfl, hb⟩ := hT
  have a3 := A1.out.below hb
  clear hb A1
  dsimp only [errV, bkV, Option.map, Option.isSome]
  have hb4 : Below w3.heap.size w3 (w3.alloc (.cells #[.int .i64 0, .int .i64 0, .bool false] 51)) := (Below.refl _ _).alloc (Nat.le_refl _) _
  have a4 := a3.below hb4
  obtain ⟨Vb, Vd, gl, cs, hmm⟩ := a4.hm
  have HUS := Lib.hid (husd_any hmm (by omega) o ho _ HX.out)
  have A4 := Lib.hid a4
  clear hmm a4 hb4 a3
  go_wp2_with fail
  refine HUS.out.mono ?_
  rintro e w5 ⟨rfl, rfl⟩
  go_wp2_with fail
  refine (code_err _ 3 (by omega) (by omega)).mono ?_
  rintro e w9 ⟨rfl, rfl⟩
  dsimp only [ixV]
  go_wp2
  go_ret
  exact did_of A4.out HRT.out HDL.out HCAP.out

set_option maxRecDepth 100000 in
set_option maxHeartbeats 2000000 in
theorem ldo_r5s (HK : UsedK) (a : Al wB W g base cap A c bs F p H) (rt : Rt bs H) (hcap : H.cap = cap) (hbase : base ≤ 4611686018427387904) (hc16 : cap ≤ 16384) (hd : H.Dl) (what n m : Int) (hn : -9223372036854775808 ≤ n ∧ n ≤ 9223372036854775807) (hk : (what % ((6 : Nat) : Int)).toNat = 5) (i : Nat) (hx : usedB H.blks (oN H n true) = some i) :
    Calls Tryz.prog 13 #[.pointer (some ⟨g, 0, none⟩), .pointer (some ⟨p, 0, none⟩), .agg #[.int .i64 what, .int .i64 n, .int .i64 m, .bool true]] W fun e w' => Did wB g base cap p e w' := by
  have hok := rt.ok (hcap ▸ hc16) hd
  have hn512 := hok.n
  have ho := oN_ok hok n true hn
  obtain ⟨w0, hw0⟩ : ∃ w0, W.alloc (.cells #[.int .i64 what, .int .i64 n, .int .i64 m, .bool true] 46) = w0 := ⟨_, rfl⟩
  have hb0 : Below W.heap.size W w0 := by rw [← hw0]; exact (Below.refl _ _).alloc (Nat.le_refl _) _
  obtain ⟨gd, hgd⟩ : ∃ gd, W.heap.size = gd := ⟨_, rfl⟩
  have hnd : w0.heap[gd]? = some (.cells #[.int .i64 what, .int .i64 n, .int .i64 m, .bool true] 46 (0, 0)) := by rw [← hw0, ← hgd]; exact heap_alloc_new W _
  have hgdlt := heap_lt hnd
  have a0 := a.below hb0
  obtain ⟨Vb, Vd, gl, cs, hmm⟩ := a0.hm
  have HPK := Lib.hid (fun w => lpick_any what 6 w (by omega) (by omega) _ hk)
  obtain ⟨o, hO⟩ : ∃ o, oN H n true = o := ⟨_, rfl⟩
  rw [hO] at ho
  have hO2 : o = n := hO.symm
  subst hO2
  rw [hO] at hx
  have r0 : w0.cell? ⟨gd, 0, none⟩ = some (.int .i64 what) := by rw [cell_of_row w0 gd 0 _ _ (0, 0) hnd]; rfl
  have r1 : w0.cell? ⟨gd, 1, none⟩ = some (.int .i64 o) := by rw [cell_of_row w0 gd 1 _ _ (0, 0) hnd]; rfl
  have r2 : w0.cell? ⟨gd, 2, none⟩ = some (.int .i64 m) := by rw [cell_of_row w0 gd 2 _ _ (0, 0) hnd]; rfl
  have r3 : w0.cell? ⟨gd, 3, none⟩ = some (.bool true) := by rw [cell_of_row w0 gd 3 _ _ (0, 0) hnd]; rfl
  have HA0 := Lib.hid a0
  have HRT := Lib.hid rt
  have HOK := Lib.hid hok
  have HDL := Lib.hid hd
  have HCAP := Lib.hid hcap
  have HW0 := Lib.hid hw0
  have HGD := Lib.hid hgd
  have HKK := Lib.hid HK
  have HX := Lib.hid hx
  clear hx
  clear a a0 hmm rt hok hd hcap hw0 hgd hnd hb0 hO hk HK
  go_enter Tryz.func13, Tryz.ntmps13
  go_wp2_with (first | (rw [HW0.out, HGD.out]) | fail)
  have A1 := Lib.hid HA0.out
  generalize w0 = w1 at *
  refine (HPK.out _).mono ?_
  rintro e w2 ⟨rfl, rfl⟩
  clear HPK HA0 HW0 HGD
  go_wp2_with fail
  refine (HKK.out w1 g base cap c A bs H o A1.out.st.ar hbase hc16 HCAP.out HRT.out ho).mono ?_
  intro e w3 hT
  rw [HX.out] at hT
  obtain ⟨rfl, hb⟩ := hT
  have a3 := A1.out.below hb
  clear hb A1
  dsimp only [errV, bkV, Option.map, Option.isSome, Bk.val]
  obtain ⟨hib, _⟩ := usedB_at HX.out
  obtain ⟨xo, hxo⟩ : ∃ xo, (bkAt H.blks i).off = xo := ⟨_, rfl⟩
  obtain ⟨xs, hxs⟩ : ∃ xs, (bkAt H.blks i).size = xs := ⟨_, rfl⟩
  obtain ⟨xu, hxu⟩ : ∃ xu, (bkAt H.blks i).used = xu := ⟨_, rfl⟩
  rw [hxo, hxs, hxu]
  obtain ⟨w4, hw4⟩ : ∃ w4, w3.alloc (.cells #[.int .i64 (xo : Int), .int .i64 (xs : Int), .bool xu] 51) = w4 := ⟨_, rfl⟩
  have hb4 : Below w3.heap.size w3 w4 := by rw [← hw4]; exact (Below.refl _ _).alloc (Nat.le_refl _) _
  obtain ⟨gx, hgx⟩ : ∃ gx, w3.heap.size = gx := ⟨_, rfl⟩
  have hnx : w4.heap[gx]? = some (.cells #[.int .i64 (xo : Int), .int .i64 (xs : Int), .bool xu] 51 (0, 0)) := by rw [← hw4, ← hgx]; exact heap_alloc_new w3 _
  have a4 := a3.below hb4
  obtain ⟨Vb, Vd, gl, cs, hmm⟩ := a4.hm
  obtain ⟨b1, c1, rfl, _, hnc, _⟩ := own_nn hmm.ob (by omega)
  have q1 := hmm.c1
  obtain ⟨d0, d1, d2⟩ := hmm.at_n rfl hib
  rw [hxo] at d0
  rw [hxs] at d1
  rw [hxu] at d2
  obtain ⟨x0, x1, x2⟩ := (blk_cells hnx).1
  have HUS := Lib.hid (husd_any hmm (by omega) o ho _ HX.out)
  obtain ⟨nn, hnn⟩ : ∃ nn, H.blks.length = nn := ⟨_, rfl⟩
  rw [hnn] at q1 hib hnc hn512
  have hii : (i : Int) < (nn : Int) := by omega
  have hi512 : i < 512 := by omega
  have A4 := Lib.hid a4
  have HW4 := Lib.hid hw4
  have HGX := Lib.hid hgx
  clear hmm a4 hb4 hw4 a3 hgx hnx hxo hxs hxu hnn
  go_wp2_with (first | (rw [HW4.out, HGX.out]) | fail)
  refine HUS.out.mono ?_
  rintro e w5 ⟨rfl, rfl⟩
  dsimp only [ixV]
  go_wp2_with fail
  refine (code_nil _).mono ?_
  rintro e w9 ⟨rfl, rfl⟩
  go_wp2_with fail
  go_quiet (fail)
  have A5 := Lib.hid (A4.out.below ⟨rfl, rfl, rfl, Nat.le_refl _, fun _ _ => rfl⟩ : Al wB (w4.drewN nq) g base cap A c bs F p H)
  clear A4 d0 d1 d2 x0 x1 x2 q1
  generalize w4.drewN nq = w6 at A5 ⊢
  go_wp2
  go_ret
  exact did_of A5.out HRT.out HDL.out HCAP.out

set_option maxRecDepth 100000 in
set_option maxHeartbeats 2000000 in
theorem ldo_r0a (HK : TakeK) (a : Al wB W g base cap A c bs F p H) (rt : Rt bs H) (hcap : H.cap = cap) (hbase : base ≤ 4611686018427387904) (hc16 : cap ≤ 16384) (hd : H.Dl) (what n m : Int) (hn : -9223372036854775808 ≤ n ∧ n ≤ 9223372036854775807) (k6 : Nat) (hk : (what % ((6 : Nat) : Int)).toNat = k6) (h3 : k6 ≠ 3) (h4 : k6 ≠ 4) (h5 : k6 ≠ 5) (hs : isSz (sizeN n true) = false) :
    Calls Tryz.prog 13 #[.pointer (some ⟨g, 0, none⟩), .pointer (some ⟨p, 0, none⟩), .agg #[.int .i64 what, .int .i64 n, .int .i64 m, .bool true]] W fun e w' => Did wB g base cap p e w' := by
  have hok := rt.ok (hcap ▸ hc16) hd
  have hn512 := hok.n
  have ho := oN_ok hok n true hn
  obtain ⟨w0, hw0⟩ : ∃ w0, W.alloc (.cells #[.int .i64 what, .int .i64 n, .int .i64 m, .bool true] 46) = w0 := ⟨_, rfl⟩
  have hb0 : Below W.heap.size W w0 := by rw [← hw0]; exact (Below.refl _ _).alloc (Nat.le_refl _) _
  obtain ⟨gd, hgd⟩ : ∃ gd, W.heap.size = gd := ⟨_, rfl⟩
  have hnd : w0.heap[gd]? = some (.cells #[.int .i64 what, .int .i64 n, .int .i64 m, .bool true] 46 (0, 0)) := by rw [← hw0, ← hgd]; exact heap_alloc_new W _
  have hgdlt := heap_lt hnd
  have a0 := a.below hb0
  obtain ⟨Vb, Vd, gl, cs, hmm⟩ := a0.hm
  have HPK := Lib.hid (fun w => lpick_any what 6 w (by omega) (by omega) _ hk)
  have hsb := sizeN_ok n true hn
  have HSZ := Lib.hid (fun w => lsize_any w n hn true)
  obtain ⟨o, hO⟩ : ∃ o, oN H n true = o := ⟨_, rfl⟩
  rw [hO] at ho
  have hO2 : o = n := hO.symm
  subst hO2
  obtain ⟨s, hS⟩ : ∃ s, sizeN o true = s := ⟨_, rfl⟩
  rw [hS] at hsb hs HSZ
  obtain ⟨cl, hcl⟩ : ∃ cl, classI s = cl := ⟨_, rfl⟩
  have hcn : cl < 0 := by rw [← hcl]; exact (classI_neg s).2 hs
  have hcb := classI_bounds s
  rw [hcl] at hcb
  have HCL := Lib.hid (fun w => rclass_any w s hsb cl hcl)
  have e3 : ((k6 : Int) == 3) = false := by rw [beq_eq_false_iff_ne]; omega
  have e4 : ((k6 : Int) == 4) = false := by rw [beq_eq_false_iff_ne]; omega
  have e5 : ((k6 : Int) == 5) = false := by rw [beq_eq_false_iff_ne]; omega
  have hk6 : k6 < 6 := by
    rw [← hk]
    have h1 := Int.emod_nonneg what (b := ((6 : Nat) : Int)) (by omega)
    have h2 := Int.emod_lt_of_pos what (b := ((6 : Nat) : Int)) (by omega)
    omega
  have r0 : w0.cell? ⟨gd, 0, none⟩ = some (.int .i64 what) := by rw [cell_of_row w0 gd 0 _ _ (0, 0) hnd]; rfl
  have r1 : w0.cell? ⟨gd, 1, none⟩ = some (.int .i64 o) := by rw [cell_of_row w0 gd 1 _ _ (0, 0) hnd]; rfl
  have r2 : w0.cell? ⟨gd, 2, none⟩ = some (.int .i64 m) := by rw [cell_of_row w0 gd 2 _ _ (0, 0) hnd]; rfl
  have r3 : w0.cell? ⟨gd, 3, none⟩ = some (.bool true) := by rw [cell_of_row w0 gd 3 _ _ (0, 0) hnd]; rfl
  have HA0 := Lib.hid a0
  have HRT := Lib.hid rt
  have HOK := Lib.hid hok
  have HDL := Lib.hid hd
  have HCAP := Lib.hid hcap
  have HW0 := Lib.hid hw0
  have HGD := Lib.hid hgd
  have HKK := Lib.hid HK
  clear a a0 hmm rt hok hd hcap hw0 hgd hnd hb0 hO hk HK
  have HSA := Lib.hid hs
  clear hS hs
  go_enter Tryz.func13, Tryz.ntmps13
  go_wp2_with (first | (rw [HW0.out, HGD.out]) | fail)
  have A1 := Lib.hid HA0.out
  generalize w0 = w1 at *
  refine (HPK.out _).mono ?_
  rintro e w2 ⟨rfl, rfl⟩
  clear HPK HA0 HW0 HGD
  go_wp2_with fail
  refine (HSZ.out _).mono ?_
  rintro e w3 ⟨rfl, rfl⟩
  go_wp2_with fail
  refine ((HKK.out w1 g base cap c A bs H s A1.out.st.ar hbase hc16 HCAP.out HRT.out hsb).1 HSA.out).mono ?_
  rintro e w4 ⟨rfl, hb⟩
  have A3 := Lib.hid (A1.out.below hb)
  clear hb A1
  dsimp only [errV]
  go_wp2_with fail
  refine (code_err _ 1 (by omega) (by omega)).mono ?_
  rintro e w9 ⟨rfl, rfl⟩
  go_wp2_with fail
  refine (HCL.out _).mono ?_
  rintro e w10 ⟨rfl, rfl⟩
  go_wp2
  go_ret
  exact did_of A3.out HRT.out HDL.out HCAP.out

set_option maxRecDepth 100000 in
set_option maxHeartbeats 2000000 in
theorem ldo_r0n (HK : TakeK) (a : Al wB W g base cap A c bs F p H) (rt : Rt bs H) (hcap : H.cap = cap) (hbase : base ≤ 4611686018427387904) (hc16 : cap ≤ 16384) (hd : H.Dl) (what n m : Int) (hn : -9223372036854775808 ≤ n ∧ n ≤ 9223372036854775807) (k6 : Nat) (hk : (what % ((6 : Nat) : Int)).toNat = k6) (h3 : k6 ≠ 3) (h4 : k6 ≠ 4) (h5 : k6 ≠ 5) (hs : isSz (sizeN n true) = true) (hx : (H.take (sizeN n true).toNat).1 = none) :
    Calls Tryz.prog 13 #[.pointer (some ⟨g, 0, none⟩), .pointer (some ⟨p, 0, none⟩), .agg #[.int .i64 what, .int .i64 n, .int .i64 m, .bool true]] W fun e w' => Did wB g base cap p e w' := by
  have hok := rt.ok (hcap ▸ hc16) hd
  have hn512 := hok.n
  have ho := oN_ok hok n true hn
  obtain ⟨w0, hw0⟩ : ∃ w0, W.alloc (.cells #[.int .i64 what, .int .i64 n, .int .i64 m, .bool true] 46) = w0 := ⟨_, rfl⟩
  have hb0 : Below W.heap.size W w0 := by rw [← hw0]; exact (Below.refl _ _).alloc (Nat.le_refl _) _
  obtain ⟨gd, hgd⟩ : ∃ gd, W.heap.size = gd := ⟨_, rfl⟩
  have hnd : w0.heap[gd]? = some (.cells #[.int .i64 what, .int .i64 n, .int .i64 m, .bool true] 46 (0, 0)) := by rw [← hw0, ← hgd]; exact heap_alloc_new W _
  have hgdlt := heap_lt hnd
  have a0 := a.below hb0
  obtain ⟨Vb, Vd, gl, cs, hmm⟩ := a0.hm
  have HPK := Lib.hid (fun w => lpick_any what 6 w (by omega) (by omega) _ hk)
  have hsb := sizeN_ok n true hn
  have HSZ := Lib.hid (fun w => lsize_any w n hn true)
  obtain ⟨o, hO⟩ : ∃ o, oN H n true = o := ⟨_, rfl⟩
  rw [hO] at ho
  have hO2 : o = n := hO.symm
  subst hO2
  obtain ⟨s, hS⟩ : ∃ s, sizeN o true = s := ⟨_, rfl⟩
  rw [hS] at hsb hs HSZ hx
  have hsn := is_nat hs
  obtain ⟨t, ht⟩ : ∃ t, s.toNat = t := ⟨_, rfl⟩
  rw [ht] at hsn hx
  subst hsn
  obtain ⟨cl, hcl, hcl22⟩ : ∃ c : Nat, classI (t : Int) = (c : Int) ∧ c < 22 := class_nat (x := ⟨0, t, false⟩) hs
  have hcn : 0 ≤ (cl : Int) := by omega
  have HCL := Lib.hid (fun w => rclass_any w (t : Int) hsb (cl : Int) hcl)
  have HSS := Lib.hid hs
  have e3 : ((k6 : Int) == 3) = false := by rw [beq_eq_false_iff_ne]; omega
  have e4 : ((k6 : Int) == 4) = false := by rw [beq_eq_false_iff_ne]; omega
  have e5 : ((k6 : Int) == 5) = false := by rw [beq_eq_false_iff_ne]; omega
  have hk6 : k6 < 6 := by
    rw [← hk]
    have h1 := Int.emod_nonneg what (b := ((6 : Nat) : Int)) (by omega)
    have h2 := Int.emod_lt_of_pos what (b := ((6 : Nat) : Int)) (by omega)
    omega
  have r0 : w0.cell? ⟨gd, 0, none⟩ = some (.int .i64 what) := by rw [cell_of_row w0 gd 0 _ _ (0, 0) hnd]; rfl
  have r1 : w0.cell? ⟨gd, 1, none⟩ = some (.int .i64 o) := by rw [cell_of_row w0 gd 1 _ _ (0, 0) hnd]; rfl
  have r2 : w0.cell? ⟨gd, 2, none⟩ = some (.int .i64 m) := by rw [cell_of_row w0 gd 2 _ _ (0, 0) hnd]; rfl
  have r3 : w0.cell? ⟨gd, 3, none⟩ = some (.bool true) := by rw [cell_of_row w0 gd 3 _ _ (0, 0) hnd]; rfl
  have HA0 := Lib.hid a0
  have HRT := Lib.hid rt
  have HOK := Lib.hid hok
  have HDL := Lib.hid hd
  have HCAP := Lib.hid hcap
  have HW0 := Lib.hid hw0
  have HGD := Lib.hid hgd
  have HKK := Lib.hid HK
  have HX := Lib.hid hx
  clear hx
  clear a a0 hmm rt hok hd hcap hw0 hgd hnd hb0 hO hk HK
  clear hS hs ht
  go_enter Tryz.func13, Tryz.ntmps13
  go_wp2_with (first | (rw [HW0.out, HGD.out]) | fail)
  have A1 := Lib.hid HA0.out
  generalize w0 = w1 at *
  refine (HPK.out _).mono ?_
  rintro e w2 ⟨rfl, rfl⟩
  clear HPK HA0 HW0 HGD
  go_wp2_with fail
  refine (HSZ.out _).mono ?_
  rintro e w3 ⟨rfl, rfl⟩
  go_wp2_with fail
  refine ((HKK.out w1 g base cap c A bs H (t : Int) A1.out.st.ar hbase hc16 HCAP.out HRT.out hsb).2 HSS.out).mono ?_
  intro e w4 hT
  rw [Int.toNat_natCast] at hT
  unfold TurnedAt at hT
  rw [HX.out] at hT
  obtain ⟨rfl, hb⟩ := hT
  have A3 := Lib.hid (A1.out.below hb)
  clear hb A1
  dsimp only [errV]
  go_wp2_with fail
  refine (code_err _ 5 (by omega) (by omega)).mono ?_
  rintro e w9 ⟨rfl, rfl⟩
  go_wp2_with fail
  refine (HCL.out _).mono ?_
  rintro e w10 ⟨rfl, rfl⟩
  obtain ⟨Vb, Vd, gl, cs, hmm⟩ := A3.out.hm
  have HGV := Lib.hid (hTake_any hmm HOK.out 1024 HRT.out.few (by omega) HRT.out.listed t HSS.out (by rw [HCAP.out]; omega))
  clear hmm
  go_wp2_with fail
  refine HGV.out.mono ?_
  rintro e w11 ⟨rfl, ht⟩
  obtain ⟨F4, a4⟩ := A3.out.turn ht
  rw [HX.out]
  have A4 := Lib.hid a4
  clear a4 ht HGV A3
  dsimp only [badT, Option.isSome, Option.getD]
  have hsame := take_none_same HX.out
  have HSM := Lib.hid hsame
  clear hsame
  go_wp2
  go_ret
  exact did_of (HSM.out ▸ A4.out) HRT.out HDL.out HCAP.out

set_option maxRecDepth 100000 in
set_option maxHeartbeats 2000000 in
theorem ldo_r0s (HK : TakeK) (a : Al wB W g base cap A c bs F p H) (rt : Rt bs H) (hcap : H.cap = cap) (hbase : base ≤ 4611686018427387904) (hc16 : cap ≤ 16384) (hd : H.Dl) (what n m : Int) (hn : -9223372036854775808 ≤ n ∧ n ≤ 9223372036854775807) (k6 : Nat) (hk : (what % ((6 : Nat) : Int)).toNat = k6) (h3 : k6 ≠ 3) (h4 : k6 ≠ 4) (h5 : k6 ≠ 5) (hs : isSz (sizeN n true) = true) (o2 : Nat) (hx : (H.take (sizeN n true).toNat).1 = some o2) :
    Calls Tryz.prog 13 #[.pointer (some ⟨g, 0, none⟩), .pointer (some ⟨p, 0, none⟩), .agg #[.int .i64 what, .int .i64 n, .int .i64 m, .bool true]] W fun e w' => Did wB g base cap p e w' := by
  have hok := rt.ok (hcap ▸ hc16) hd
  have hn512 := hok.n
  have ho := oN_ok hok n true hn
  obtain ⟨w0, hw0⟩ : ∃ w0, W.alloc (.cells #[.int .i64 what, .int .i64 n, .int .i64 m, .bool true] 46) = w0 := ⟨_, rfl⟩
  have hb0 : Below W.heap.size W w0 := by rw [← hw0]; exact (Below.refl _ _).alloc (Nat.le_refl _) _
  obtain ⟨gd, hgd⟩ : ∃ gd, W.heap.size = gd := ⟨_, rfl⟩
  have hnd : w0.heap[gd]? = some (.cells #[.int .i64 what, .int .i64 n, .int .i64 m, .bool true] 46 (0, 0)) := by rw [← hw0, ← hgd]; exact heap_alloc_new W _
  have hgdlt := heap_lt hnd
  have a0 := a.below hb0
  obtain ⟨Vb, Vd, gl, cs, hmm⟩ := a0.hm
  have HPK := Lib.hid (fun w => lpick_any what 6 w (by omega) (by omega) _ hk)
  have hsb := sizeN_ok n true hn
  have HSZ := Lib.hid (fun w => lsize_any w n hn true)
  obtain ⟨o, hO⟩ : ∃ o, oN H n true = o := ⟨_, rfl⟩
  rw [hO] at ho
  have hO2 : o = n := hO.symm
  subst hO2
  obtain ⟨s, hS⟩ : ∃ s, sizeN o true = s := ⟨_, rfl⟩
  rw [hS] at hsb hs HSZ hx
  have hsn := is_nat hs
  obtain ⟨t, ht⟩ : ∃ t, s.toNat = t := ⟨_, rfl⟩
  rw [ht] at hsn hx
  subst hsn
  obtain ⟨cl, hcl, hcl22⟩ : ∃ c : Nat, classI (t : Int) = (c : Int) ∧ c < 22 := class_nat (x := ⟨0, t, false⟩) hs
  have hcn : 0 ≤ (cl : Int) := by omega
  have HCL := Lib.hid (fun w => rclass_any w (t : Int) hsb (cl : Int) hcl)
  have HSS := Lib.hid hs
  have e3 : ((k6 : Int) == 3) = false := by rw [beq_eq_false_iff_ne]; omega
  have e4 : ((k6 : Int) == 4) = false := by rw [beq_eq_false_iff_ne]; omega
  have e5 : ((k6 : Int) == 5) = false := by rw [beq_eq_false_iff_ne]; omega
  have hk6 : k6 < 6 := by
    rw [← hk]
    have h1 := Int.emod_nonneg what (b := ((6 : Nat) : Int)) (by omega)
    have h2 := Int.emod_lt_of_pos what (b := ((6 : Nat) : Int)) (by omega)
    omega
  have r0 : w0.cell? ⟨gd, 0, none⟩ = some (.int .i64 what) := by rw [cell_of_row w0 gd 0 _ _ (0, 0) hnd]; rfl
  have r1 : w0.cell? ⟨gd, 1, none⟩ = some (.int .i64 o) := by rw [cell_of_row w0 gd 1 _ _ (0, 0) hnd]; rfl
  have r2 : w0.cell? ⟨gd, 2, none⟩ = some (.int .i64 m) := by rw [cell_of_row w0 gd 2 _ _ (0, 0) hnd]; rfl
  have r3 : w0.cell? ⟨gd, 3, none⟩ = some (.bool true) := by rw [cell_of_row w0 gd 3 _ _ (0, 0) hnd]; rfl
  have HA0 := Lib.hid a0
  have HRT := Lib.hid rt
  have HOK := Lib.hid hok
  have HDL := Lib.hid hd
  have HCAP := Lib.hid hcap
  have HW0 := Lib.hid hw0
  have HGD := Lib.hid hgd
  have HKK := Lib.hid HK
  have HX := Lib.hid hx
  clear hx
  clear a a0 hmm rt hok hd hcap hw0 hgd hnd hb0 hO hk HK
  clear hS hs ht
  go_enter Tryz.func13, Tryz.ntmps13
  go_wp2_with (first | (rw [HW0.out, HGD.out]) | fail)
  have A1 := Lib.hid HA0.out
  generalize w0 = w1 at *
  refine (HPK.out _).mono ?_
  rintro e w2 ⟨rfl, rfl⟩
  clear HPK HA0 HW0 HGD
  go_wp2_with fail
  refine (HSZ.out _).mono ?_
  rintro e w3 ⟨rfl, rfl⟩
  go_wp2_with fail
  refine ((HKK.out w1 g base cap c A bs H (t : Int) A1.out.st.ar hbase hc16 HCAP.out HRT.out hsb).2 HSS.out).mono ?_
  intro e w4 hT
  rw [Int.toNat_natCast] at hT
  unfold TurnedAt at hT
  rw [HX.out] at hT
  obtain ⟨rfl, out, hbe, rt2, _⟩ := hT
  obtain ⟨A3', c3, a3⟩ := A1.out.became hbe
  have A3 := Lib.hid a3
  have RT2 := Lib.hid rt2
  clear hbe a3 rt2 A1
  dsimp only [errV]
  go_wp2_with fail
  refine (code_nil _).mono ?_
  rintro e w9 ⟨rfl, rfl⟩
  go_wp2_with fail
  refine (HCL.out _).mono ?_
  rintro e w10 ⟨rfl, rfl⟩
  obtain ⟨Vb, Vd, gl, cs, hmm⟩ := A3.out.hm
  have HGV := Lib.hid (hTake_any hmm HOK.out 1024 HRT.out.few (by omega) HRT.out.listed t HSS.out (by rw [HCAP.out]; omega))
  clear hmm
  go_wp2_with fail
  refine HGV.out.mono ?_
  rintro e w11 ⟨rfl, ht⟩
  obtain ⟨F4, a4⟩ := A3.out.turn ht
  rw [HX.out]
  have A4 := Lib.hid a4
  clear a4 ht HGV A3
  dsimp only [badT, Option.isSome, Option.getD]
  go_wp2
  go_ret
  exact did_of A4.out RT2.out HDL.out.take (take_cap.trans HCAP.out)

set_option maxRecDepth 100000 in
set_option maxHeartbeats 2000000 in
theorem ldo_u3n (HK : GiveK) (a : Al wB W g base cap A c bs F p H) (rt : Rt bs H) (hcap : H.cap = cap) (hbase : base ≤ 4611686018427387904) (hc16 : cap ≤ 16384) (hd : H.Dl) (what n m : Int) (hn : -9223372036854775808 ≤ n ∧ n ≤ 9223372036854775807) (hk : (what % ((6 : Nat) : Int)).toNat = 3) (hx : H.giveO (oN H n false) = none) :
    Calls Tryz.prog 13 #[.pointer (some ⟨g, 0, none⟩), .pointer (some ⟨p, 0, none⟩), .agg #[.int .i64 what, .int .i64 n, .int .i64 m, .bool false]] W fun e w' => Did wB g base cap p e w' := by
  have hok := rt.ok (hcap ▸ hc16) hd
  have hn512 := hok.n
  have ho := oN_ok hok n false hn
  obtain ⟨w0, hw0⟩ : ∃ w0, W.alloc (.cells #[.int .i64 what, .int .i64 n, .int .i64 m, .bool false] 46) = w0 := ⟨_, rfl⟩
  have hb0 : Below W.heap.size W w0 := by rw [← hw0]; exact (Below.refl _ _).alloc (Nat.le_refl _) _
  obtain ⟨gd, hgd⟩ : ∃ gd, W.heap.size = gd := ⟨_, rfl⟩
  have hnd : w0.heap[gd]? = some (.cells #[.int .i64 what, .int .i64 n, .int .i64 m, .bool false] 46 (0, 0)) := by rw [← hw0, ← hgd]; exact heap_alloc_new W _
  have hgdlt := heap_lt hnd
  have a0 := a.below hb0
  obtain ⟨Vb, Vd, gl, cs, hmm⟩ := a0.hm
  have HUD := Lib.hid (lused_any hmm (by omega) n)
  have HPK := Lib.hid (fun w => lpick_any what 6 w (by omega) (by omega) _ hk)
  obtain ⟨o, hO⟩ : ∃ o, oN H n false = o := ⟨_, rfl⟩
  rw [hO] at ho
  have hO2 : ((usedN H.blks n : Nat) : Int) = o := hO
  rw [hO2] at HUD
  rw [hO] at hx
  have r0 : w0.cell? ⟨gd, 0, none⟩ = some (.int .i64 what) := by rw [cell_of_row w0 gd 0 _ _ (0, 0) hnd]; rfl
  have r1 : w0.cell? ⟨gd, 1, none⟩ = some (.int .i64 n) := by rw [cell_of_row w0 gd 1 _ _ (0, 0) hnd]; rfl
  have r2 : w0.cell? ⟨gd, 2, none⟩ = some (.int .i64 m) := by rw [cell_of_row w0 gd 2 _ _ (0, 0) hnd]; rfl
  have r3 : w0.cell? ⟨gd, 3, none⟩ = some (.bool false) := by rw [cell_of_row w0 gd 3 _ _ (0, 0) hnd]; rfl
  have HA0 := Lib.hid a0
  have HRT := Lib.hid rt
  have HOK := Lib.hid hok
  have HDL := Lib.hid hd
  have HCAP := Lib.hid hcap
  have HW0 := Lib.hid hw0
  have HGD := Lib.hid hgd
  have HKK := Lib.hid HK
  have HX := Lib.hid hx
  clear hx
  clear a a0 hmm rt hok hd hcap hw0 hgd hnd hb0 hO hO2 hk HK
  go_enter Tryz.func13, Tryz.ntmps13
  go_wp2_with (first | (rw [HW0.out, HGD.out]) | fail)
  refine HUD.out.mono ?_
  rintro e w1 ⟨rfl, hb⟩
  have A1 := Lib.hid (HA0.out.below hb)
  have r0' := (hb.cell (p := ⟨gd, 0, none⟩) hgdlt).trans r0
  have r1' := (hb.cell (p := ⟨gd, 1, none⟩) hgdlt).trans r1
  have r2' := (hb.cell (p := ⟨gd, 2, none⟩) hgdlt).trans r2
  have r3' := (hb.cell (p := ⟨gd, 3, none⟩) hgdlt).trans r3
  clear hb r0 r1 r2 r3 HUD
  go_wp2_with fail
  refine (HPK.out _).mono ?_
  rintro e w2 ⟨rfl, rfl⟩
  clear HPK HA0 HW0 HGD
  go_wp2_with fail
  refine (HKK.out w1 g base cap c A bs H o A1.out.st.ar hbase hc16 HCAP.out HRT.out ho).mono ?_
  intro e w3 hT
  rw [HX.out] at hT
  obtain ⟨rfl, hb⟩ := hT
  have A3 := Lib.hid (A1.out.below hb)
  clear hb A1
  dsimp only [errV]
  go_wp2_with fail
  refine (code_err _ 3 (by omega) (by omega)).mono ?_
  rintro e w9 ⟨rfl, rfl⟩
  obtain ⟨Vb, Vd, gl, cs, hmm⟩ := A3.out.hm
  have HGV := Lib.hid (hGive_any hmm HOK.out 1024 HRT.out.few (by omega) o ho)
  clear hmm
  go_wp2_with fail
  refine HGV.out.mono ?_
  rintro e w10 ⟨rfl, ht⟩
  rw [HX.out] at ht ⊢
  obtain ⟨F4, a4⟩ := A3.out.turn ht
  have A4 := Lib.hid a4
  clear a4 ht HGV A3
  dsimp only [badV, Option.isSome]
  go_wp2
  go_ret
  exact did_of A4.out HRT.out HDL.out HCAP.out

set_option maxRecDepth 100000 in
set_option maxHeartbeats 2000000 in
theorem ldo_u3s (HK : GiveK) (a : Al wB W g base cap A c bs F p H) (rt : Rt bs H) (hcap : H.cap = cap) (hbase : base ≤ 4611686018427387904) (hc16 : cap ≤ 16384) (hd : H.Dl) (what n m : Int) (hn : -9223372036854775808 ≤ n ∧ n ≤ 9223372036854775807) (hk : (what % ((6 : Nat) : Int)).toNat = 3) (H2 : Hp) (hx : H.giveO (oN H n false) = some H2) :
    Calls Tryz.prog 13 #[.pointer (some ⟨g, 0, none⟩), .pointer (some ⟨p, 0, none⟩), .agg #[.int .i64 what, .int .i64 n, .int .i64 m, .bool false]] W fun e w' => Did wB g base cap p e w' := by
  have hok := rt.ok (hcap ▸ hc16) hd
  have hn512 := hok.n
  have ho := oN_ok hok n false hn
  obtain ⟨w0, hw0⟩ : ∃ w0, W.alloc (.cells #[.int .i64 what, .int .i64 n, .int .i64 m, .bool false] 46) = w0 := ⟨_, rfl⟩
  have hb0 : Below W.heap.size W w0 := by rw [← hw0]; exact (Below.refl _ _).alloc (Nat.le_refl _) _
  obtain ⟨gd, hgd⟩ : ∃ gd, W.heap.size = gd := ⟨_, rfl⟩
  have hnd : w0.heap[gd]? = some (.cells #[.int .i64 what, .int .i64 n, .int .i64 m, .bool false] 46 (0, 0)) := by rw [← hw0, ← hgd]; exact heap_alloc_new W _
  have hgdlt := heap_lt hnd
  have a0 := a.below hb0
  obtain ⟨Vb, Vd, gl, cs, hmm⟩ := a0.hm
  have HUD := Lib.hid (lused_any hmm (by omega) n)
  have HPK := Lib.hid (fun w => lpick_any what 6 w (by omega) (by omega) _ hk)
  obtain ⟨o, hO⟩ : ∃ o, oN H n false = o := ⟨_, rfl⟩
  rw [hO] at ho
  have hO2 : ((usedN H.blks n : Nat) : Int) = o := hO
  rw [hO2] at HUD
  rw [hO] at hx
  have r0 : w0.cell? ⟨gd, 0, none⟩ = some (.int .i64 what) := by rw [cell_of_row w0 gd 0 _ _ (0, 0) hnd]; rfl
  have r1 : w0.cell? ⟨gd, 1, none⟩ = some (.int .i64 n) := by rw [cell_of_row w0 gd 1 _ _ (0, 0) hnd]; rfl
  have r2 : w0.cell? ⟨gd, 2, none⟩ = some (.int .i64 m) := by rw [cell_of_row w0 gd 2 _ _ (0, 0) hnd]; rfl
  have r3 : w0.cell? ⟨gd, 3, none⟩ = some (.bool false) := by rw [cell_of_row w0 gd 3 _ _ (0, 0) hnd]; rfl
  have HA0 := Lib.hid a0
  have HRT := Lib.hid rt
  have HOK := Lib.hid hok
  have HDL := Lib.hid hd
  have HCAP := Lib.hid hcap
  have HW0 := Lib.hid hw0
  have HGD := Lib.hid hgd
  have HKK := Lib.hid HK
  have HX := Lib.hid hx
  clear hx
  clear a a0 hmm rt hok hd hcap hw0 hgd hnd hb0 hO hO2 hk HK
  go_enter Tryz.func13, Tryz.ntmps13
  go_wp2_with (first | (rw [HW0.out, HGD.out]) | fail)
  refine HUD.out.mono ?_
  rintro e w1 ⟨rfl, hb⟩
  have A1 := Lib.hid (HA0.out.below hb)
  have r0' := (hb.cell (p := ⟨gd, 0, none⟩) hgdlt).trans r0
  have r1' := (hb.cell (p := ⟨gd, 1, none⟩) hgdlt).trans r1
  have r2' := (hb.cell (p := ⟨gd, 2, none⟩) hgdlt).trans r2
  have r3' := (hb.cell (p := ⟨gd, 3, none⟩) hgdlt).trans r3
  clear hb r0 r1 r2 r3 HUD
  go_wp2_with fail
  refine (HPK.out _).mono ?_
  rintro e w2 ⟨rfl, rfl⟩
  clear HPK HA0 HW0 HGD
  go_wp2_with fail
  refine (HKK.out w1 g base cap c A bs H o A1.out.st.ar hbase hc16 HCAP.out HRT.out ho).mono ?_
  intro e w3 hT
  rw [HX.out] at hT
  obtain ⟨rfl, out, hbe, rt2, _⟩ := hT
  obtain ⟨A3', c3, a3⟩ := A1.out.became hbe
  have A3 := Lib.hid a3
  have RT2 := Lib.hid rt2
  clear hbe a3 rt2 A1
  dsimp only [errV]
  go_wp2_with fail
  refine (code_nil _).mono ?_
  rintro e w9 ⟨rfl, rfl⟩
  obtain ⟨Vb, Vd, gl, cs, hmm⟩ := A3.out.hm
  have HGV := Lib.hid (hGive_any hmm HOK.out 1024 HRT.out.few (by omega) o ho)
  clear hmm
  go_wp2_with fail
  refine HGV.out.mono ?_
  rintro e w10 ⟨rfl, ht⟩
  rw [HX.out] at ht ⊢
  obtain ⟨F4, a4⟩ := A3.out.turn ht
  have A4 := Lib.hid a4
  clear a4 ht HGV A3
  dsimp only [badV, Option.isSome]
  go_wp2
  go_ret
  exact did_of A4.out RT2.out (HDL.out.giveO HX.out) ((giveO_cap HX.out).trans HCAP.out)

set_option maxRecDepth 100000 in
set_option maxHeartbeats 2000000 in
theorem ldo_u4a (HK : TrimK) (a : Al wB W g base cap A c bs F p H) (rt : Rt bs H) (hcap : H.cap = cap) (hbase : base ≤ 4611686018427387904) (hc16 : cap ≤ 16384) (hd : H.Dl) (what n m : Int) (hn : -9223372036854775808 ≤ n ∧ n ≤ 9223372036854775807) (hm : -9223372036854775808 ≤ m ∧ m ≤ 9223372036854775807) (hk : (what % ((6 : Nat) : Int)).toNat = 4) (hs : isSz (sizeN m false) = false) :
    Calls Tryz.prog 13 #[.pointer (some ⟨g, 0, none⟩), .pointer (some ⟨p, 0, none⟩), .agg #[.int .i64 what, .int .i64 n, .int .i64 m, .bool false]] W fun e w' => Did wB g base cap p e w' := by
  have hok := rt.ok (hcap ▸ hc16) hd
  have hn512 := hok.n
  have ho := oN_ok hok n false hn
  obtain ⟨w0, hw0⟩ : ∃ w0, W.alloc (.cells #[.int .i64 what, .int .i64 n, .int .i64 m, .bool false] 46) = w0 := ⟨_, rfl⟩
  have hb0 : Below W.heap.size W w0 := by rw [← hw0]; exact (Below.refl _ _).alloc (Nat.le_refl _) _
  obtain ⟨gd, hgd⟩ : ∃ gd, W.heap.size = gd := ⟨_, rfl⟩
  have hnd : w0.heap[gd]? = some (.cells #[.int .i64 what, .int .i64 n, .int .i64 m, .bool false] 46 (0, 0)) := by rw [← hw0, ← hgd]; exact heap_alloc_new W _
  have hgdlt := heap_lt hnd
  have a0 := a.below hb0
  obtain ⟨Vb, Vd, gl, cs, hmm⟩ := a0.hm
  have HUD := Lib.hid (lused_any hmm (by omega) n)
  have HPK := Lib.hid (fun w => lpick_any what 6 w (by omega) (by omega) _ hk)
  have hsb := sizeN_ok m false hm
  have HSZ := Lib.hid (fun w => lsize_any w m hm false)
  obtain ⟨o, hO⟩ : ∃ o, oN H n false = o := ⟨_, rfl⟩
  rw [hO] at ho
  have hO2 : ((usedN H.blks n : Nat) : Int) = o := hO
  rw [hO2] at HUD
  obtain ⟨s, hS⟩ : ∃ s, sizeN m false = s := ⟨_, rfl⟩
  rw [hS] at hsb hs HSZ
  obtain ⟨cl, hcl⟩ : ∃ cl, classI s = cl := ⟨_, rfl⟩
  have hcn : cl < 0 := by rw [← hcl]; exact (classI_neg s).2 hs
  have hcb := classI_bounds s
  rw [hcl] at hcb
  have HCL := Lib.hid (fun w => rclass_any w s hsb cl hcl)
  have r0 : w0.cell? ⟨gd, 0, none⟩ = some (.int .i64 what) := by rw [cell_of_row w0 gd 0 _ _ (0, 0) hnd]; rfl
  have r1 : w0.cell? ⟨gd, 1, none⟩ = some (.int .i64 n) := by rw [cell_of_row w0 gd 1 _ _ (0, 0) hnd]; rfl
  have r2 : w0.cell? ⟨gd, 2, none⟩ = some (.int .i64 m) := by rw [cell_of_row w0 gd 2 _ _ (0, 0) hnd]; rfl
  have r3 : w0.cell? ⟨gd, 3, none⟩ = some (.bool false) := by rw [cell_of_row w0 gd 3 _ _ (0, 0) hnd]; rfl
  have HA0 := Lib.hid a0
  have HRT := Lib.hid rt
  have HOK := Lib.hid hok
  have HDL := Lib.hid hd
  have HCAP := Lib.hid hcap
  have HW0 := Lib.hid hw0
  have HGD := Lib.hid hgd
  have HKK := Lib.hid HK
  clear a a0 hmm rt hok hd hcap hw0 hgd hnd hb0 hO hO2 hk HK
  have HSA := Lib.hid hs
  clear hS hs
  go_enter Tryz.func13, Tryz.ntmps13
  go_wp2_with (first | (rw [HW0.out, HGD.out]) | fail)
  refine HUD.out.mono ?_
  rintro e w1 ⟨rfl, hb⟩
  have A1 := Lib.hid (HA0.out.below hb)
  have r0' := (hb.cell (p := ⟨gd, 0, none⟩) hgdlt).trans r0
  have r1' := (hb.cell (p := ⟨gd, 1, none⟩) hgdlt).trans r1
  have r2' := (hb.cell (p := ⟨gd, 2, none⟩) hgdlt).trans r2
  have r3' := (hb.cell (p := ⟨gd, 3, none⟩) hgdlt).trans r3
  clear hb r0 r1 r2 r3 HUD
  go_wp2_with fail
  refine (HPK.out _).mono ?_
  rintro e w2 ⟨rfl, rfl⟩
  clear HPK HA0 HW0 HGD
  go_wp2_with fail
  refine (HSZ.out _).mono ?_
  rintro e w3 ⟨rfl, rfl⟩
  go_wp2_with fail
  refine ((HKK.out w1 g base cap c A bs H o s A1.out.st.ar hbase hc16 HCAP.out HRT.out ho hsb).1 HSA.out).mono ?_
  rintro e w4 ⟨rfl, hb⟩
  have A3 := Lib.hid (A1.out.below hb)
  clear hb A1
  dsimp only [errV]
  go_wp2_with fail
  refine (code_err _ 1 (by omega) (by omega)).mono ?_
  rintro e w9 ⟨rfl, rfl⟩
  go_wp2_with fail
  refine (HCL.out _).mono ?_
  rintro e w10 ⟨rfl, rfl⟩
  go_wp2
  go_ret
  exact did_of A3.out HRT.out HDL.out HCAP.out

set_option maxRecDepth 100000 in
set_option maxHeartbeats 2000000 in
theorem ldo_u4n (HK : TrimK) (a : Al wB W g base cap A c bs F p H) (rt : Rt bs H) (hcap : H.cap = cap) (hbase : base ≤ 4611686018427387904) (hc16 : cap ≤ 16384) (hd : H.Dl) (what n m : Int) (hn : -9223372036854775808 ≤ n ∧ n ≤ 9223372036854775807) (hm : -9223372036854775808 ≤ m ∧ m ≤ 9223372036854775807) (hk : (what % ((6 : Nat) : Int)).toNat = 4) (hs : isSz (sizeN m false) = true) (hx : H.trimO (oN H n false) (sizeN m false).toNat = none) :
    Calls Tryz.prog 13 #[.pointer (some ⟨g, 0, none⟩), .pointer (some ⟨p, 0, none⟩), .agg #[.int .i64 what, .int .i64 n, .int .i64 m, .bool false]] W fun e w' => Did wB g base cap p e w' := by
  have hok := rt.ok (hcap ▸ hc16) hd
  have hn512 := hok.n
  have ho := oN_ok hok n false hn
  obtain ⟨w0, hw0⟩ : ∃ w0, W.alloc (.cells #[.int .i64 what, .int .i64 n, .int .i64 m, .bool false] 46) = w0 := ⟨_, rfl⟩
  have hb0 : Below W.heap.size W w0 := by rw [← hw0]; exact (Below.refl _ _).alloc (Nat.le_refl _) _
  obtain ⟨gd, hgd⟩ : ∃ gd, W.heap.size = gd := ⟨_, rfl⟩
  have hnd : w0.heap[gd]? = some (.cells #[.int .i64 what, .int .i64 n, .int .i64 m, .bool false] 46 (0, 0)) := by rw [← hw0, ← hgd]; exact heap_alloc_new W _
  have hgdlt := heap_lt hnd
  have a0 := a.below hb0
  obtain ⟨Vb, Vd, gl, cs, hmm⟩ := a0.hm
  have HUD := Lib.hid (lused_any hmm (by omega) n)
  have HPK := Lib.hid (fun w => lpick_any what 6 w (by omega) (by omega) _ hk)
  have hsb := sizeN_ok m false hm
  have HSZ := Lib.hid (fun w => lsize_any w m hm false)
  obtain ⟨o, hO⟩ : ∃ o, oN H n false = o := ⟨_, rfl⟩
  rw [hO] at ho
  have hO2 : ((usedN H.blks n : Nat) : Int) = o := hO
  rw [hO2] at HUD
  rw [hO] at hx
  obtain ⟨s, hS⟩ : ∃ s, sizeN m false = s := ⟨_, rfl⟩
  rw [hS] at hsb hs HSZ hx
  have hsn := is_nat hs
  obtain ⟨t, ht⟩ : ∃ t, s.toNat = t := ⟨_, rfl⟩
  rw [ht] at hsn hx
  subst hsn
  obtain ⟨cl, hcl, hcl22⟩ : ∃ c : Nat, classI (t : Int) = (c : Int) ∧ c < 22 := class_nat (x := ⟨0, t, false⟩) hs
  have hcn : 0 ≤ (cl : Int) := by omega
  have HCL := Lib.hid (fun w => rclass_any w (t : Int) hsb (cl : Int) hcl)
  have HSS := Lib.hid hs
  have r0 : w0.cell? ⟨gd, 0, none⟩ = some (.int .i64 what) := by rw [cell_of_row w0 gd 0 _ _ (0, 0) hnd]; rfl
  have r1 : w0.cell? ⟨gd, 1, none⟩ = some (.int .i64 n) := by rw [cell_of_row w0 gd 1 _ _ (0, 0) hnd]; rfl
  have r2 : w0.cell? ⟨gd, 2, none⟩ = some (.int .i64 m) := by rw [cell_of_row w0 gd 2 _ _ (0, 0) hnd]; rfl
  have r3 : w0.cell? ⟨gd, 3, none⟩ = some (.bool false) := by rw [cell_of_row w0 gd 3 _ _ (0, 0) hnd]; rfl
  have HA0 := Lib.hid a0
  have HRT := Lib.hid rt
  have HOK := Lib.hid hok
  have HDL := Lib.hid hd
  have HCAP := Lib.hid hcap
  have HW0 := Lib.hid hw0
  have HGD := Lib.hid hgd
  have HKK := Lib.hid HK
  have HX := Lib.hid hx
  clear hx
  clear a a0 hmm rt hok hd hcap hw0 hgd hnd hb0 hO hO2 hk HK
  clear hS hs ht
  go_enter Tryz.func13, Tryz.ntmps13
  go_wp2_with (first | (rw [HW0.out, HGD.out]) | fail)
  refine HUD.out.mono ?_
  rintro e w1 ⟨rfl, hb⟩
  have A1 := Lib.hid (HA0.out.below hb)
  have r0' := (hb.cell (p := ⟨gd, 0, none⟩) hgdlt).trans r0
  have r1' := (hb.cell (p := ⟨gd, 1, none⟩) hgdlt).trans r1
  have r2' := (hb.cell (p := ⟨gd, 2, none⟩) hgdlt).trans r2
  have r3' := (hb.cell (p := ⟨gd, 3, none⟩) hgdlt).trans r3
  clear hb r0 r1 r2 r3 HUD
  go_wp2_with fail
  refine (HPK.out _).mono ?_
  rintro e w2 ⟨rfl, rfl⟩
  clear HPK HA0 HW0 HGD
  go_wp2_with fail
  refine (HSZ.out _).mono ?_
  rintro e w3 ⟨rfl, rfl⟩
  go_wp2_with fail
  refine ((HKK.out w1 g base cap c A bs H o (t : Int) A1.out.st.ar hbase hc16 HCAP.out HRT.out ho hsb).2 HSS.out).mono ?_
  intro e w4 hT
  rw [Int.toNat_natCast, HX.out] at hT
  obtain ⟨rfl, hb⟩ := hT
  have A3 := Lib.hid (A1.out.below hb)
  clear hb A1
  dsimp only [errV]
  go_wp2_with fail
  refine (code_err _ 3 (by omega) (by omega)).mono ?_
  rintro e w9 ⟨rfl, rfl⟩
  go_wp2_with fail
  refine (HCL.out _).mono ?_
  rintro e w10 ⟨rfl, rfl⟩
  obtain ⟨Vb, Vd, gl, cs, hmm⟩ := A3.out.hm
  have HGV := Lib.hid (hTrim_any hmm HOK.out 1024 HRT.out.few (by omega) o ho t HSS.out)
  clear hmm
  go_wp2_with fail
  refine HGV.out.mono ?_
  rintro e w11 ⟨rfl, ht⟩
  rw [HX.out] at ht ⊢
  obtain ⟨F4, a4⟩ := A3.out.turn ht
  have A4 := Lib.hid a4
  clear a4 ht HGV A3
  dsimp only [badV, Option.isSome]
  go_wp2
  go_ret
  exact did_of A4.out HRT.out HDL.out HCAP.out

set_option maxRecDepth 100000 in
set_option maxHeartbeats 2000000 in
theorem ldo_u4s (HK : TrimK) (a : Al wB W g base cap A c bs F p H) (rt : Rt bs H) (hcap : H.cap = cap) (hbase : base ≤ 4611686018427387904) (hc16 : cap ≤ 16384) (hd : H.Dl) (what n m : Int) (hn : -9223372036854775808 ≤ n ∧ n ≤ 9223372036854775807) (hm : -9223372036854775808 ≤ m ∧ m ≤ 9223372036854775807) (hk : (what % ((6 : Nat) : Int)).toNat = 4) (hs : isSz (sizeN m false) = true) (H2 : Hp) (hx : H.trimO (oN H n false) (sizeN m false).toNat = some H2) :
    Calls Tryz.prog 13 #[.pointer (some ⟨g, 0, none⟩), .pointer (some ⟨p, 0, none⟩), .agg #[.int .i64 what, .int .i64 n, .int .i64 m, .bool false]] W fun e w' => Did wB g base cap p e w' := by
  have hok := rt.ok (hcap ▸ hc16) hd
  have hn512 := hok.n
  have ho := oN_ok hok n false hn
  obtain ⟨w0, hw0⟩ : ∃ w0, W.alloc (.cells #[.int .i64 what, .int .i64 n, .int .i64 m, .bool false] 46) = w0 := ⟨_, rfl⟩
  have hb0 : Below W.heap.size W w0 := by rw [← hw0]; exact (Below.refl _ _).alloc (Nat.le_refl _) _
  obtain ⟨gd, hgd⟩ : ∃ gd, W.heap.size = gd := ⟨_, rfl⟩
  have hnd : w0.heap[gd]? = some (.cells #[.int .i64 what, .int .i64 n, .int .i64 m, .bool false] 46 (0, 0)) := by rw [← hw0, ← hgd]; exact heap_alloc_new W _
  have hgdlt := heap_lt hnd
  have a0 := a.below hb0
  obtain ⟨Vb, Vd, gl, cs, hmm⟩ := a0.hm
  have HUD := Lib.hid (lused_any hmm (by omega) n)
  have HPK := Lib.hid (fun w => lpick_any what 6 w (by omega) (by omega) _ hk)
  have hsb := sizeN_ok m false hm
  have HSZ := Lib.hid (fun w => lsize_any w m hm false)
  obtain ⟨o, hO⟩ : ∃ o, oN H n false = o := ⟨_, rfl⟩
  rw [hO] at ho
  have hO2 : ((usedN H.blks n : Nat) : Int) = o := hO
  rw [hO2] at HUD
  rw [hO] at hx
  obtain ⟨s, hS⟩ : ∃ s, sizeN m false = s := ⟨_, rfl⟩
  rw [hS] at hsb hs HSZ hx
  have hsn := is_nat hs
  obtain ⟨t, ht⟩ : ∃ t, s.toNat = t := ⟨_, rfl⟩
  rw [ht] at hsn hx
  subst hsn
  obtain ⟨cl, hcl, hcl22⟩ : ∃ c : Nat, classI (t : Int) = (c : Int) ∧ c < 22 := class_nat (x := ⟨0, t, false⟩) hs
  have hcn : 0 ≤ (cl : Int) := by omega
  have HCL := Lib.hid (fun w => rclass_any w (t : Int) hsb (cl : Int) hcl)
  have HSS := Lib.hid hs
  have r0 : w0.cell? ⟨gd, 0, none⟩ = some (.int .i64 what) := by rw [cell_of_row w0 gd 0 _ _ (0, 0) hnd]; rfl
  have r1 : w0.cell? ⟨gd, 1, none⟩ = some (.int .i64 n) := by rw [cell_of_row w0 gd 1 _ _ (0, 0) hnd]; rfl
  have r2 : w0.cell? ⟨gd, 2, none⟩ = some (.int .i64 m) := by rw [cell_of_row w0 gd 2 _ _ (0, 0) hnd]; rfl
  have r3 : w0.cell? ⟨gd, 3, none⟩ = some (.bool false) := by rw [cell_of_row w0 gd 3 _ _ (0, 0) hnd]; rfl
  have HA0 := Lib.hid a0
  have HRT := Lib.hid rt
  have HOK := Lib.hid hok
  have HDL := Lib.hid hd
  have HCAP := Lib.hid hcap
  have HW0 := Lib.hid hw0
  have HGD := Lib.hid hgd
  have HKK := Lib.hid HK
  have HX := Lib.hid hx
  clear hx
  clear a a0 hmm rt hok hd hcap hw0 hgd hnd hb0 hO hO2 hk HK
  clear hS hs ht
  go_enter Tryz.func13, Tryz.ntmps13
  go_wp2_with (first | (rw [HW0.out, HGD.out]) | fail)
  refine HUD.out.mono ?_
  rintro e w1 ⟨rfl, hb⟩
  have A1 := Lib.hid (HA0.out.below hb)
  have r0' := (hb.cell (p := ⟨gd, 0, none⟩) hgdlt).trans r0
  have r1' := (hb.cell (p := ⟨gd, 1, none⟩) hgdlt).trans r1
  have r2' := (hb.cell (p := ⟨gd, 2, none⟩) hgdlt).trans r2
  have r3' := (hb.cell (p := ⟨gd, 3, none⟩) hgdlt).trans r3
  clear hb r0 r1 r2 r3 HUD
  go_wp2_with fail
  refine (HPK.out _).mono ?_
  rintro e w2 ⟨rfl, rfl⟩
  clear HPK HA0 HW0 HGD
  go_wp2_with fail
  refine (HSZ.out _).mono ?_
  rintro e w3 ⟨rfl, rfl⟩
  go_wp2_with fail
  refine ((HKK.out w1 g base cap c A bs H o (t : Int) A1.out.st.ar hbase hc16 HCAP.out HRT.out ho hsb).2 HSS.out).mono ?_
  intro e w4 hT
  rw [Int.toNat_natCast, HX.out] at hT
  obtain ⟨rfl, out, hbe, rt2, _⟩ := hT
  obtain ⟨A3', c3, a3⟩ := A1.out.became hbe
  have A3 := Lib.hid a3
  have RT2 := Lib.hid rt2
  clear hbe a3 rt2 A1
  dsimp only [errV]
  go_wp2_with fail
  refine (code_nil _).mono ?_
  rintro e w9 ⟨rfl, rfl⟩
  go_wp2_with fail
  refine (HCL.out _).mono ?_
  rintro e w10 ⟨rfl, rfl⟩
  obtain ⟨Vb, Vd, gl, cs, hmm⟩ := A3.out.hm
  have HGV := Lib.hid (hTrim_any hmm HOK.out 1024 HRT.out.few (by omega) o ho t HSS.out)
  clear hmm
  go_wp2_with fail
  refine HGV.out.mono ?_
  rintro e w11 ⟨rfl, ht⟩
  rw [HX.out] at ht ⊢
  obtain ⟨F4, a4⟩ := A3.out.turn ht
  have A4 := Lib.hid a4
  clear a4 ht HGV A3
  dsimp only [badV, Option.isSome]
  go_wp2
  go_ret
  exact did_of A4.out RT2.out (HDL.out.trimO HX.out) ((trimO_cap HX.out).trans HCAP.out)

set_option maxRecDepth 100000 in
set_option maxHeartbeats 2000000 in
theorem ldo_u5n (HK : UsedK) (a : Al wB W g base cap A c bs F p H) (rt : Rt bs H) (hcap : H.cap = cap) (hbase : base ≤ 4611686018427387904) (hc16 : cap ≤ 16384) (hd : H.Dl) (what n m : Int) (hn : -9223372036854775808 ≤ n ∧ n ≤ 9223372036854775807) (hk : (what % ((6 : Nat) : Int)).toNat = 5) (hx : usedB H.blks (oN H n false) = none) :
    Calls Tryz.prog 13 #[.pointer (some ⟨g, 0, none⟩), .pointer (some ⟨p, 0, none⟩), .agg #[.int .i64 what, .int .i64 n, .int .i64 m, .bool false]] W fun e w' => Did wB g base cap p e w' := by
  have hok := rt.ok (hcap ▸ hc16) hd
  have hn512 := hok.n
  have ho := oN_ok hok n false hn
  obtain ⟨w0, hw0⟩ : ∃ w0, W.alloc (.cells #[.int .i64 what, .int .i64 n, .int .i64 m, .bool false] 46) = w0 := ⟨_, rfl⟩
  have hb0 : Below W.heap.size W w0 := by rw [← hw0]; exact (Below.refl _ _).alloc (Nat.le_refl _) _
  obtain ⟨gd, hgd⟩ : ∃ gd, W.heap.size = gd := ⟨_, rfl⟩
  have hnd : w0.heap[gd]? = some (.cells #[.int .i64 what, .int .i64 n, .int .i64 m, .bool false] 46 (0, 0)) := by rw [← hw0, ← hgd]; exact heap_alloc_new W _
  have hgdlt := heap_lt hnd
  have a0 := a.below hb0
  obtain ⟨Vb, Vd, gl, cs, hmm⟩ := a0.hm
  have HUD := Lib.hid (lused_any hmm (by omega) n)
  have HPK := Lib.hid (fun w => lpick_any what 6 w (by omega) (by omega) _ hk)
  obtain ⟨o, hO⟩ : ∃ o, oN H n false = o := ⟨_, rfl⟩
  rw [hO] at ho
  have hO2 : ((usedN H.blks n : Nat) : Int) = o := hO
  rw [hO2] at HUD
  rw [hO] at hx
  have r0 : w0.cell? ⟨gd, 0, none⟩ = some (.int .i64 what) := by rw [cell_of_row w0 gd 0 _ _ (0, 0) hnd]; rfl
  have r1 : w0.cell? ⟨gd, 1, none⟩ = some (.int .i64 n) := by rw [cell_of_row w0 gd 1 _ _ (0, 0) hnd]; rfl
  have r2 : w0.cell? ⟨gd, 2, none⟩ = some (.int .i64 m) := by rw [cell_of_row w0 gd 2 _ _ (0, 0) hnd]; rfl
  have r3 : w0.cell? ⟨gd, 3, none⟩ = some (.bool false) := by rw [cell_of_row w0 gd 3 _ _ (0, 0) hnd]; rfl
  have HA0 := Lib.hid a0
  have HRT := Lib.hid rt
  have HOK := Lib.hid hok
  have HDL := Lib.hid hd
  have HCAP := Lib.hid hcap
  have HW0 := Lib.hid hw0
  have HGD := Lib.hid hgd
  have HKK := Lib.hid HK
  have HX := Lib.hid hx
  clear hx
  clear a a0 hmm rt hok hd hcap hw0 hgd hnd hb0 hO hO2 hk HK
  go_enter Tryz.func13, Tryz.ntmps13
  go_wp2_with (first | (rw [HW0.out, HGD.out]) | fail)
  refine HUD.out.mono ?_
  rintro e w1 ⟨rfl, hb⟩
  have A1 := Lib.hid (HA0.out.below hb)
  have r0' := (hb.cell (p := ⟨gd, 0, none⟩) hgdlt).trans r0
  have r1' := (hb.cell (p := ⟨gd, 1, none⟩) hgdlt).trans r1
  have r2' := (hb.cell (p := ⟨gd, 2, none⟩) hgdlt).trans r2
  have r3' := (hb.cell (p := ⟨gd, 3, none⟩) hgdlt).trans r3
  clear hb r0 r1 r2 r3 HUD
  go_wp2_with fail
  refine (HPK.out _).mono ?_
  rintro e w2 ⟨rfl, rfl⟩
  clear HPK HA0 HW0 HGD
  go_wp2_with fail
  refine (HKK.out w1 g base cap c A bs H o A1.out.st.ar hbase hc16 HCAP.out HRT.out ho).mono ?_
  intro e w3 hT
  rw [HX.out] at hT
  obtain ⟨rfl, hb⟩ := hT
  have a3 := A1.out.below hb
  clear hb A1
  dsimp only [errV, bkV, Option.map, Option.isSome]
  have hb4 : Below w3.heap.size w3 (w3.alloc (.cells #[.int .i64 0, .int .i64 0, .bool false] 51)) := (Below.refl _ _).alloc (Nat.le_refl _) _
  have a4 := a3.below hb4
  obtain ⟨Vb, Vd, gl, cs, hmm⟩ := a4.hm
  have HUS := Lib.hid (husd_any hmm (by omega) o ho _ HX.out)
  have A4 := Lib.hid a4
  clear hmm a4 hb4 a3
  go_wp2_with fail
  refine HUS.out.mono ?_
  rintro e w5 ⟨rfl, rfl⟩
  go_wp2_with fail
  refine (code_err _ 3 (by omega) (by omega)).mono ?_
  rintro e w9 ⟨rfl, rfl⟩
  dsimp only [ixV]
  go_wp2
  go_ret
  exact did_of A4.out HRT.out HDL.out HCAP.out

set_option maxRecDepth 100000 in
set_option maxHeartbeats 2000000 in
theorem ldo_u5s (HK : UsedK) (a : Al wB W g base cap A c bs F p H) (rt : Rt bs H) (hcap : H.cap = cap) (hbase : base ≤ 4611686018427387904) (hc16 : cap ≤ 16384) (hd : H.Dl) (what n m : Int) (hn : -9223372036854775808 ≤ n ∧ n ≤ 9223372036854775807) (hk : (what % ((6 : Nat) : Int)).toNat = 5) (i : Nat) (hx : usedB H.blks (oN H n false) = some i) :
    Calls Tryz.prog 13 #[.pointer (some ⟨g, 0, none⟩), .pointer (some ⟨p, 0, none⟩), .agg #[.int .i64 what, .int .i64 n, .int .i64 m, .bool false]] W fun e w' => Did wB g base cap p e w' := by
  have hok := rt.ok (hcap ▸ hc16) hd
  have hn512 := hok.n
  have ho := oN_ok hok n false hn
  obtain ⟨w0, hw0⟩ : ∃ w0, W.alloc (.cells #[.int .i64 what, .int .i64 n, .int .i64 m, .bool false] 46) = w0 := ⟨_, rfl⟩
  have hb0 : Below W.heap.size W w0 := by rw [← hw0]; exact (Below.refl _ _).alloc (Nat.le_refl _) _
  obtain ⟨gd, hgd⟩ : ∃ gd, W.heap.size = gd := ⟨_, rfl⟩
  have hnd : w0.heap[gd]? = some (.cells #[.int .i64 what, .int .i64 n, .int .i64 m, .bool false] 46 (0, 0)) := by rw [← hw0, ← hgd]; exact heap_alloc_new W _
  have hgdlt := heap_lt hnd
  have a0 := a.below hb0
  obtain ⟨Vb, Vd, gl, cs, hmm⟩ := a0.hm
  have HUD := Lib.hid (lused_any hmm (by omega) n)
  have HPK := Lib.hid (fun w => lpick_any what 6 w (by omega) (by omega) _ hk)
  obtain ⟨o, hO⟩ : ∃ o, oN H n false = o := ⟨_, rfl⟩
  rw [hO] at ho
  have hO2 : ((usedN H.blks n : Nat) : Int) = o := hO
  rw [hO2] at HUD
  rw [hO] at hx
  have r0 : w0.cell? ⟨gd, 0, none⟩ = some (.int .i64 what) := by rw [cell_of_row w0 gd 0 _ _ (0, 0) hnd]; rfl
  have r1 : w0.cell? ⟨gd, 1, none⟩ = some (.int .i64 n) := by rw [cell_of_row w0 gd 1 _ _ (0, 0) hnd]; rfl
  have r2 : w0.cell? ⟨gd, 2, none⟩ = some (.int .i64 m) := by rw [cell_of_row w0 gd 2 _ _ (0, 0) hnd]; rfl
  have r3 : w0.cell? ⟨gd, 3, none⟩ = some (.bool false) := by rw [cell_of_row w0 gd 3 _ _ (0, 0) hnd]; rfl
  have HA0 := Lib.hid a0
  have HRT := Lib.hid rt
  have HOK := Lib.hid hok
  have HDL := Lib.hid hd
  have HCAP := Lib.hid hcap
  have HW0 := Lib.hid hw0
  have HGD := Lib.hid hgd
  have HKK := Lib.hid HK
  have HX := Lib.hid hx
  clear hx
  clear a a0 hmm rt hok hd hcap hw0 hgd hnd hb0 hO hO2 hk HK
  go_enter Tryz.func13, Tryz.ntmps13
  go_wp2_with (first | (rw [HW0.out, HGD.out]) | fail)
  refine HUD.out.mono ?_
  rintro e w1 ⟨rfl, hb⟩
  have A1 := Lib.hid (HA0.out.below hb)
  have r0' := (hb.cell (p := ⟨gd, 0, none⟩) hgdlt).trans r0
  have r1' := (hb.cell (p := ⟨gd, 1, none⟩) hgdlt).trans r1
  have r2' := (hb.cell (p := ⟨gd, 2, none⟩) hgdlt).trans r2
  have r3' := (hb.cell (p := ⟨gd, 3, none⟩) hgdlt).trans r3
  clear hb r0 r1 r2 r3 HUD
  go_wp2_with fail
  refine (HPK.out _).mono ?_
  rintro e w2 ⟨rfl, rfl⟩
  clear HPK HA0 HW0 HGD
  go_wp2_with fail
  refine (HKK.out w1 g base cap c A bs H o A1.out.st.ar hbase hc16 HCAP.out HRT.out ho).mono ?_
  intro e w3 hT
  rw [HX.out] at hT
  obtain ⟨rfl, hb⟩ := hT
  have a3 := A1.out.below hb
  clear hb A1
  dsimp only [errV, bkV, Option.map, Option.isSome, Bk.val]
  obtain ⟨hib, _⟩ := usedB_at HX.out
  obtain ⟨xo, hxo⟩ : ∃ xo, (bkAt H.blks i).off = xo := ⟨_, rfl⟩
  obtain ⟨xs, hxs⟩ : ∃ xs, (bkAt H.blks i).size = xs := ⟨_, rfl⟩
  obtain ⟨xu, hxu⟩ : ∃ xu, (bkAt H.blks i).used = xu := ⟨_, rfl⟩
  rw [hxo, hxs, hxu]
  obtain ⟨w4, hw4⟩ : ∃ w4, w3.alloc (.cells #[.int .i64 (xo : Int), .int .i64 (xs : Int), .bool xu] 51) = w4 := ⟨_, rfl⟩
  have hb4 : Below w3.heap.size w3 w4 := by rw [← hw4]; exact (Below.refl _ _).alloc (Nat.le_refl _) _
  obtain ⟨gx, hgx⟩ : ∃ gx, w3.heap.size = gx := ⟨_, rfl⟩
  have hnx : w4.heap[gx]? = some (.cells #[.int .i64 (xo : Int), .int .i64 (xs : Int), .bool xu] 51 (0, 0)) := by rw [← hw4, ← hgx]; exact heap_alloc_new w3 _
  have a4 := a3.below hb4
  obtain ⟨Vb, Vd, gl, cs, hmm⟩ := a4.hm
  obtain ⟨b1, c1, rfl, _, hnc, _⟩ := own_nn hmm.ob (by omega)
  have q1 := hmm.c1
  obtain ⟨d0, d1, d2⟩ := hmm.at_n rfl hib
  rw [hxo] at d0
  rw [hxs] at d1
  rw [hxu] at d2
  obtain ⟨x0, x1, x2⟩ := (blk_cells hnx).1
  have HUS := Lib.hid (husd_any hmm (by omega) o ho _ HX.out)
  obtain ⟨nn, hnn⟩ : ∃ nn, H.blks.length = nn := ⟨_, rfl⟩
  rw [hnn] at q1 hib hnc hn512
  have hii : (i : Int) < (nn : Int) := by omega
  have hi512 : i < 512 := by omega
  have A4 := Lib.hid a4
  have HW4 := Lib.hid hw4
  have HGX := Lib.hid hgx
  clear hmm a4 hb4 hw4 a3 hgx hnx hxo hxs hxu hnn
  go_wp2_with (first | (rw [HW4.out, HGX.out]) | fail)
  refine HUS.out.mono ?_
  rintro e w5 ⟨rfl, rfl⟩
  dsimp only [ixV]
  go_wp2_with fail
  refine (code_nil _).mono ?_
  rintro e w9 ⟨rfl, rfl⟩
  go_wp2_with fail
  go_quiet (fail)
  have A5 := Lib.hid (A4.out.below ⟨rfl, rfl, rfl, Nat.le_refl _, fun _ _ => rfl⟩ : Al wB (w4.drewN nq) g base cap A c bs F p H)
  clear A4 d0 d1 d2 x0 x1 x2 q1
  generalize w4.drewN nq = w6 at A5 ⊢
  go_wp2
  go_ret
  exact did_of A5.out HRT.out HDL.out HCAP.out

set_option maxRecDepth 100000 in
set_option maxHeartbeats 2000000 in
theorem ldo_u0a (HK : TakeK) (a : Al wB W g base cap A c bs F p H) (rt : Rt bs H) (hcap : H.cap = cap) (hbase : base ≤ 4611686018427387904) (hc16 : cap ≤ 16384) (hd : H.Dl) (what n m : Int) (hn : -9223372036854775808 ≤ n ∧ n ≤ 9223372036854775807) (k6 : Nat) (hk : (what % ((6 : Nat) : Int)).toNat = k6) (h3 : k6 ≠ 3) (h4 : k6 ≠ 4) (h5 : k6 ≠ 5) (hs : isSz (sizeN n false) = false) :
    Calls Tryz.prog 13 #[.pointer (some ⟨g, 0, none⟩), .pointer (some ⟨p, 0, none⟩), .agg #[.int .i64 what, .int .i64 n, .int .i64 m, .bool false]] W fun e w' => Did wB g base cap p e w' := by
  have hok := rt.ok (hcap ▸ hc16) hd
  have hn512 := hok.n
  have ho := oN_ok hok n false hn
  obtain ⟨w0, hw0⟩ : ∃ w0, W.alloc (.cells #[.int .i64 what, .int .i64 n, .int .i64 m, .bool false] 46) = w0 := ⟨_, rfl⟩
  have hb0 : Below W.heap.size W w0 := by rw [← hw0]; exact (Below.refl _ _).alloc (Nat.le_refl _) _
  obtain ⟨gd, hgd⟩ : ∃ gd, W.heap.size = gd := ⟨_, rfl⟩
  have hnd : w0.heap[gd]? = some (.cells #[.int .i64 what, .int .i64 n, .int .i64 m, .bool false] 46 (0, 0)) := by rw [← hw0, ← hgd]; exact heap_alloc_new W _
  have hgdlt := heap_lt hnd
  have a0 := a.below hb0
  obtain ⟨Vb, Vd, gl, cs, hmm⟩ := a0.hm
  have HUD := Lib.hid (lused_any hmm (by omega) n)
  have HPK := Lib.hid (fun w => lpick_any what 6 w (by omega) (by omega) _ hk)
  have hsb := sizeN_ok n false hn
  have HSZ := Lib.hid (fun w => lsize_any w n hn false)
  obtain ⟨o, hO⟩ : ∃ o, oN H n false = o := ⟨_, rfl⟩
  rw [hO] at ho
  have hO2 : ((usedN H.blks n : Nat) : Int) = o := hO
  rw [hO2] at HUD
  obtain ⟨s, hS⟩ : ∃ s, sizeN n false = s := ⟨_, rfl⟩
  rw [hS] at hsb hs HSZ
  obtain ⟨cl, hcl⟩ : ∃ cl, classI s = cl := ⟨_, rfl⟩
  have hcn : cl < 0 := by rw [← hcl]; exact (classI_neg s).2 hs
  have hcb := classI_bounds s
  rw [hcl] at hcb
  have HCL := Lib.hid (fun w => rclass_any w s hsb cl hcl)
  have e3 : ((k6 : Int) == 3) = false := by rw [beq_eq_false_iff_ne]; omega
  have e4 : ((k6 : Int) == 4) = false := by rw [beq_eq_false_iff_ne]; omega
  have e5 : ((k6 : Int) == 5) = false := by rw [beq_eq_false_iff_ne]; omega
  have hk6 : k6 < 6 := by
    rw [← hk]
    have h1 := Int.emod_nonneg what (b := ((6 : Nat) : Int)) (by omega)
    have h2 := Int.emod_lt_of_pos what (b := ((6 : Nat) : Int)) (by omega)
    omega
  have r0 : w0.cell? ⟨gd, 0, none⟩ = some (.int .i64 what) := by rw [cell_of_row w0 gd 0 _ _ (0, 0) hnd]; rfl
  have r1 : w0.cell? ⟨gd, 1, none⟩ = some (.int .i64 n) := by rw [cell_of_row w0 gd 1 _ _ (0, 0) hnd]; rfl
  have r2 : w0.cell? ⟨gd, 2, none⟩ = some (.int .i64 m) := by rw [cell_of_row w0 gd 2 _ _ (0, 0) hnd]; rfl
  have r3 : w0.cell? ⟨gd, 3, none⟩ = some (.bool false) := by rw [cell_of_row w0 gd 3 _ _ (0, 0) hnd]; rfl
  have HA0 := Lib.hid a0
  have HRT := Lib.hid rt
  have HOK := Lib.hid hok
  have HDL := Lib.hid hd
  have HCAP := Lib.hid hcap
  have HW0 := Lib.hid hw0
  have HGD := Lib.hid hgd
  have HKK := Lib.hid HK
  clear a a0 hmm rt hok hd hcap hw0 hgd hnd hb0 hO hO2 hk HK
  have HSA := Lib.hid hs
  clear hS hs
  go_enter Tryz.func13, Tryz.ntmps13
  go_wp2_with (first | (rw [HW0.out, HGD.out]) | fail)
  refine HUD.out.mono ?_
  rintro e w1 ⟨rfl, hb⟩
  have A1 := Lib.hid (HA0.out.below hb)
  have r0' := (hb.cell (p := ⟨gd, 0, none⟩) hgdlt).trans r0
  have r1' := (hb.cell (p := ⟨gd, 1, none⟩) hgdlt).trans r1
  have r2' := (hb.cell (p := ⟨gd, 2, none⟩) hgdlt).trans r2
  have r3' := (hb.cell (p := ⟨gd, 3, none⟩) hgdlt).trans r3
  clear hb r0 r1 r2 r3 HUD
  go_wp2_with fail
  refine (HPK.out _).mono ?_
  rintro e w2 ⟨rfl, rfl⟩
  clear HPK HA0 HW0 HGD
  go_wp2_with fail
  refine (HSZ.out _).mono ?_
  rintro e w3 ⟨rfl, rfl⟩
  go_wp2_with fail
  refine ((HKK.out w1 g base cap c A bs H s A1.out.st.ar hbase hc16 HCAP.out HRT.out hsb).1 HSA.out).mono ?_
  rintro e w4 ⟨rfl, hb⟩
  have A3 := Lib.hid (A1.out.below hb)
  clear hb A1
  dsimp only [errV]
  go_wp2_with fail
  refine (code_err _ 1 (by omega) (by omega)).mono ?_
  rintro e w9 ⟨rfl, rfl⟩
  go_wp2_with fail
  refine (HCL.out _).mono ?_
  rintro e w10 ⟨rfl, rfl⟩
  go_wp2
  go_ret
  exact did_of A3.out HRT.out HDL.out HCAP.out

set_option maxRecDepth 100000 in
set_option maxHeartbeats 2000000 in
theorem ldo_u0n (HK : TakeK) (a : Al wB W g base cap A c bs F p H) (rt : Rt bs H) (hcap : H.cap = cap) (hbase : base ≤ 4611686018427387904) (hc16 : cap ≤ 16384) (hd : H.Dl) (what n m : Int) (hn : -9223372036854775808 ≤ n ∧ n ≤ 9223372036854775807) (k6 : Nat) (hk : (what % ((6 : Nat) : Int)).toNat = k6) (h3 : k6 ≠ 3) (h4 : k6 ≠ 4) (h5 : k6 ≠ 5) (hs : isSz (sizeN n false) = true) (hx : (H.take (sizeN n false).toNat).1 = none) :
    Calls Tryz.prog 13 #[.pointer (some ⟨g, 0, none⟩), .pointer (some ⟨p, 0, none⟩), .agg #[.int .i64 what, .int .i64 n, .int .i64 m, .bool false]] W fun e w' => Did wB g base cap p e w' := by
  have hok := rt.ok (hcap ▸ hc16) hd
  have hn512 := hok.n
  have ho := oN_ok hok n false hn
  obtain ⟨w0, hw0⟩ : ∃ w0, W.alloc (.cells #[.int .i64 what, .int .i64 n, .int .i64 m, .bool false] 46) = w0 := ⟨_, rfl⟩
  have hb0 : Below W.heap.size W w0 := by rw [← hw0]; exact (Below.refl _ _).alloc (Nat.le_refl _) _
  obtain ⟨gd, hgd⟩ : ∃ gd, W.heap.size = gd := ⟨_, rfl⟩
  have hnd : w0.heap[gd]? = some (.cells #[.int .i64 what, .int .i64 n, .int .i64 m, .bool false] 46 (0, 0)) := by rw [← hw0, ← hgd]; exact heap_alloc_new W _
  have hgdlt := heap_lt hnd
  have a0 := a.below hb0
  obtain ⟨Vb, Vd, gl, cs, hmm⟩ := a0.hm
  have HUD := Lib.hid (lused_any hmm (by omega) n)
  have HPK := Lib.hid (fun w => lpick_any what 6 w (by omega) (by omega) _ hk)
  have hsb := sizeN_ok n false hn
  have HSZ := Lib.hid (fun w => lsize_any w n hn false)
  obtain ⟨o, hO⟩ : ∃ o, oN H n false = o := ⟨_, rfl⟩
  rw [hO] at ho
  have hO2 : ((usedN H.blks n : Nat) : Int) = o := hO
  rw [hO2] at HUD
  obtain ⟨s, hS⟩ : ∃ s, sizeN n false = s := ⟨_, rfl⟩
  rw [hS] at hsb hs HSZ hx
  have hsn := is_nat hs
  obtain ⟨t, ht⟩ : ∃ t, s.toNat = t := ⟨_, rfl⟩
  rw [ht] at hsn hx
  subst hsn
  obtain ⟨cl, hcl, hcl22⟩ : ∃ c : Nat, classI (t : Int) = (c : Int) ∧ c < 22 := class_nat (x := ⟨0, t, false⟩) hs
  have hcn : 0 ≤ (cl : Int) := by omega
  have HCL := Lib.hid (fun w => rclass_any w (t : Int) hsb (cl : Int) hcl)
  have HSS := Lib.hid hs
  have e3 : ((k6 : Int) == 3) = false := by rw [beq_eq_false_iff_ne]; omega
  have e4 : ((k6 : Int) == 4) = false := by rw [beq_eq_false_iff_ne]; omega
  have e5 : ((k6 : Int) == 5) = false := by rw [beq_eq_false_iff_ne]; omega
  have hk6 : k6 < 6 := by
    rw [← hk]
    have h1 := Int.emod_nonneg what (b := ((6 : Nat) : Int)) (by omega)
    have h2 := Int.emod_lt_of_pos what (b := ((6 : Nat) : Int)) (by omega)
    omega
  have r0 : w0.cell? ⟨gd, 0, none⟩ = some (.int .i64 what) := by rw [cell_of_row w0 gd 0 _ _ (0, 0) hnd]; rfl
  have r1 : w0.cell? ⟨gd, 1, none⟩ = some (.int .i64 n) := by rw [cell_of_row w0 gd 1 _ _ (0, 0) hnd]; rfl
  have r2 : w0.cell? ⟨gd, 2, none⟩ = some (.int .i64 m) := by rw [cell_of_row w0 gd 2 _ _ (0, 0) hnd]; rfl
  have r3 : w0.cell? ⟨gd, 3, none⟩ = some (.bool false) := by rw [cell_of_row w0 gd 3 _ _ (0, 0) hnd]; rfl
  have HA0 := Lib.hid a0
  have HRT := Lib.hid rt
  have HOK := Lib.hid hok
  have HDL := Lib.hid hd
  have HCAP := Lib.hid hcap
  have HW0 := Lib.hid hw0
  have HGD := Lib.hid hgd
  have HKK := Lib.hid HK
  have HX := Lib.hid hx
  clear hx
  clear a a0 hmm rt hok hd hcap hw0 hgd hnd hb0 hO hO2 hk HK
  clear hS hs ht
  go_enter Tryz.func13, Tryz.ntmps13
  go_wp2_with (first | (rw [HW0.out, HGD.out]) | fail)
  refine HUD.out.mono ?_
  rintro e w1 ⟨rfl, hb⟩
  have A1 := Lib.hid (HA0.out.below hb)
  have r0' := (hb.cell (p := ⟨gd, 0, none⟩) hgdlt).trans r0
  have r1' := (hb.cell (p := ⟨gd, 1, none⟩) hgdlt).trans r1
  have r2' := (hb.cell (p := ⟨gd, 2, none⟩) hgdlt).trans r2
  have r3' := (hb.cell (p := ⟨gd, 3, none⟩) hgdlt).trans r3
  clear hb r0 r1 r2 r3 HUD
  go_wp2_with fail
  refine (HPK.out _).mono ?_
  rintro e w2 ⟨rfl, rfl⟩
  clear HPK HA0 HW0 HGD
  go_wp2_with fail
  refine (HSZ.out _).mono ?_
  rintro e w3 ⟨rfl, rfl⟩
  go_wp2_with fail
  refine ((HKK.out w1 g base cap c A bs H (t : Int) A1.out.st.ar hbase hc16 HCAP.out HRT.out hsb).2 HSS.out).mono ?_
  intro e w4 hT
  rw [Int.toNat_natCast] at hT
  unfold TurnedAt at hT
  rw [HX.out] at hT
  obtain ⟨rfl, hb⟩ := hT
  have A3 := Lib.hid (A1.out.below hb)
  clear hb A1
  dsimp only [errV]
  go_wp2_with fail
  refine (code_err _ 5 (by omega) (by omega)).mono ?_
  rintro e w9 ⟨rfl, rfl⟩
  go_wp2_with fail
  refine (HCL.out _).mono ?_
  rintro e w10 ⟨rfl, rfl⟩
  obtain ⟨Vb, Vd, gl, cs, hmm⟩ := A3.out.hm
  have HGV := Lib.hid (hTake_any hmm HOK.out 1024 HRT.out.few (by omega) HRT.out.listed t HSS.out (by rw [HCAP.out]; omega))
  clear hmm
  go_wp2_with fail
  refine HGV.out.mono ?_
  rintro e w11 ⟨rfl, ht⟩
  obtain ⟨F4, a4⟩ := A3.out.turn ht
  rw [HX.out]
  have A4 := Lib.hid a4
  clear a4 ht HGV A3
  dsimp only [badT, Option.isSome, Option.getD]
  have hsame := take_none_same HX.out
  have HSM := Lib.hid hsame
  clear hsame
  go_wp2
  go_ret
  exact did_of (HSM.out ▸ A4.out) HRT.out HDL.out HCAP.out

set_option maxRecDepth 100000 in
set_option maxHeartbeats 2000000 in
theorem ldo_u0s (HK : TakeK) (a : Al wB W g base cap A c bs F p H) (rt : Rt bs H) (hcap : H.cap = cap) (hbase : base ≤ 4611686018427387904) (hc16 : cap ≤ 16384) (hd : H.Dl) (what n m : Int) (hn : -9223372036854775808 ≤ n ∧ n ≤ 9223372036854775807) (k6 : Nat) (hk : (what % ((6 : Nat) : Int)).toNat = k6) (h3 : k6 ≠ 3) (h4 : k6 ≠ 4) (h5 : k6 ≠ 5) (hs : isSz (sizeN n false) = true) (o2 : Nat) (hx : (H.take (sizeN n false).toNat).1 = some o2) :
    Calls Tryz.prog 13 #[.pointer (some ⟨g, 0, none⟩), .pointer (some ⟨p, 0, none⟩), .agg #[.int .i64 what, .int .i64 n, .int .i64 m, .bool false]] W fun e w' => Did wB g base cap p e w' := by
  have hok := rt.ok (hcap ▸ hc16) hd
  have hn512 := hok.n
  have ho := oN_ok hok n false hn
  obtain ⟨w0, hw0⟩ : ∃ w0, W.alloc (.cells #[.int .i64 what, .int .i64 n, .int .i64 m, .bool false] 46) = w0 := ⟨_, rfl⟩
  have hb0 : Below W.heap.size W w0 := by rw [← hw0]; exact (Below.refl _ _).alloc (Nat.le_refl _) _
  obtain ⟨gd, hgd⟩ : ∃ gd, W.heap.size = gd := ⟨_, rfl⟩
  have hnd : w0.heap[gd]? = some (.cells #[.int .i64 what, .int .i64 n, .int .i64 m, .bool false] 46 (0, 0)) := by rw [← hw0, ← hgd]; exact heap_alloc_new W _
  have hgdlt := heap_lt hnd
  have a0 := a.below hb0
  obtain ⟨Vb, Vd, gl, cs, hmm⟩ := a0.hm
  have HUD := Lib.hid (lused_any hmm (by omega) n)
  have HPK := Lib.hid (fun w => lpick_any what 6 w (by omega) (by omega) _ hk)
  have hsb := sizeN_ok n false hn
  have HSZ := Lib.hid (fun w => lsize_any w n hn false)
  obtain ⟨o, hO⟩ : ∃ o, oN H n false = o := ⟨_, rfl⟩
  rw [hO] at ho
  have hO2 : ((usedN H.blks n : Nat) : Int) = o := hO
  rw [hO2] at HUD
  obtain ⟨s, hS⟩ : ∃ s, sizeN n false = s := ⟨_, rfl⟩
  rw [hS] at hsb hs HSZ hx
  have hsn := is_nat hs
  obtain ⟨t, ht⟩ : ∃ t, s.toNat = t := ⟨_, rfl⟩
  rw [ht] at hsn hx
  subst hsn
  obtain ⟨cl, hcl, hcl22⟩ : ∃ c : Nat, classI (t : Int) = (c : Int) ∧ c < 22 := class_nat (x := ⟨0, t, false⟩) hs
  have hcn : 0 ≤ (cl : Int) := by omega
  have HCL := Lib.hid (fun w => rclass_any w (t : Int) hsb (cl : Int) hcl)
  have HSS := Lib.hid hs
  have e3 : ((k6 : Int) == 3) = false := by rw [beq_eq_false_iff_ne]; omega
  have e4 : ((k6 : Int) == 4) = false := by rw [beq_eq_false_iff_ne]; omega
  have e5 : ((k6 : Int) == 5) = false := by rw [beq_eq_false_iff_ne]; omega
  have hk6 : k6 < 6 := by
    rw [← hk]
    have h1 := Int.emod_nonneg what (b := ((6 : Nat) : Int)) (by omega)
    have h2 := Int.emod_lt_of_pos what (b := ((6 : Nat) : Int)) (by omega)
    omega
  have r0 : w0.cell? ⟨gd, 0, none⟩ = some (.int .i64 what) := by rw [cell_of_row w0 gd 0 _ _ (0, 0) hnd]; rfl
  have r1 : w0.cell? ⟨gd, 1, none⟩ = some (.int .i64 n) := by rw [cell_of_row w0 gd 1 _ _ (0, 0) hnd]; rfl
  have r2 : w0.cell? ⟨gd, 2, none⟩ = some (.int .i64 m) := by rw [cell_of_row w0 gd 2 _ _ (0, 0) hnd]; rfl
  have r3 : w0.cell? ⟨gd, 3, none⟩ = some (.bool false) := by rw [cell_of_row w0 gd 3 _ _ (0, 0) hnd]; rfl
  have HA0 := Lib.hid a0
  have HRT := Lib.hid rt
  have HOK := Lib.hid hok
  have HDL := Lib.hid hd
  have HCAP := Lib.hid hcap
  have HW0 := Lib.hid hw0
  have HGD := Lib.hid hgd
  have HKK := Lib.hid HK
  have HX := Lib.hid hx
  clear hx
  clear a a0 hmm rt hok hd hcap hw0 hgd hnd hb0 hO hO2 hk HK
  clear hS hs ht
  go_enter Tryz.func13, Tryz.ntmps13
  go_wp2_with (first | (rw [HW0.out, HGD.out]) | fail)
  refine HUD.out.mono ?_
  rintro e w1 ⟨rfl, hb⟩
  have A1 := Lib.hid (HA0.out.below hb)
  have r0' := (hb.cell (p := ⟨gd, 0, none⟩) hgdlt).trans r0
  have r1' := (hb.cell (p := ⟨gd, 1, none⟩) hgdlt).trans r1
  have r2' := (hb.cell (p := ⟨gd, 2, none⟩) hgdlt).trans r2
  have r3' := (hb.cell (p := ⟨gd, 3, none⟩) hgdlt).trans r3
  clear hb r0 r1 r2 r3 HUD
  go_wp2_with fail
  refine (HPK.out _).mono ?_
  rintro e w2 ⟨rfl, rfl⟩
  clear HPK HA0 HW0 HGD
  go_wp2_with fail
  refine (HSZ.out _).mono ?_
  rintro e w3 ⟨rfl, rfl⟩
  go_wp2_with fail
  refine ((HKK.out w1 g base cap c A bs H (t : Int) A1.out.st.ar hbase hc16 HCAP.out HRT.out hsb).2 HSS.out).mono ?_
  intro e w4 hT
  rw [Int.toNat_natCast] at hT
  unfold TurnedAt at hT
  rw [HX.out] at hT
  obtain ⟨rfl, out, hbe, rt2, _⟩ := hT
  obtain ⟨A3', c3, a3⟩ := A1.out.became hbe
  have A3 := Lib.hid a3
  have RT2 := Lib.hid rt2
  clear hbe a3 rt2 A1
  dsimp only [errV]
  go_wp2_with fail
  refine (code_nil _).mono ?_
  rintro e w9 ⟨rfl, rfl⟩
  go_wp2_with fail
  refine (HCL.out _).mono ?_
  rintro e w10 ⟨rfl, rfl⟩
  obtain ⟨Vb, Vd, gl, cs, hmm⟩ := A3.out.hm
  have HGV := Lib.hid (hTake_any hmm HOK.out 1024 HRT.out.few (by omega) HRT.out.listed t HSS.out (by rw [HCAP.out]; omega))
  clear hmm
  go_wp2_with fail
  refine HGV.out.mono ?_
  rintro e w11 ⟨rfl, ht⟩
  obtain ⟨F4, a4⟩ := A3.out.turn ht
  rw [HX.out]
  have A4 := Lib.hid a4
  clear a4 ht HGV A3
  dsimp only [badT, Option.isSome, Option.getD]
  go_wp2
  go_ret
  exact did_of A4.out RT2.out HDL.out.take (take_cap.trans HCAP.out)

theorem ldo_any (HT : TakeK) (HG : GiveK) (HR : TrimK) (HU : UsedK) (a : Al wB W g base cap A c bs F p H) (rt : Rt bs H) (hcap : H.cap = cap) (hbase : base ≤ 4611686018427387904) (hc16 : cap ≤ 16384) (hd : H.Dl) (what n m : Int) (raw : Bool) (hn : -9223372036854775808 ≤ n ∧ n ≤ 9223372036854775807) (hm : -9223372036854775808 ≤ m ∧ m ≤ 9223372036854775807) :
    Calls Tryz.prog 13 #[.pointer (some ⟨g, 0, none⟩), .pointer (some ⟨p, 0, none⟩), .agg #[.int .i64 what, .int .i64 n, .int .i64 m, .bool raw]] W fun e w' => Did wB g base cap p e w' := by
  cases raw
  · by_cases h3 : (what % ((6 : Nat) : Int)).toNat = 3
    · cases hx : H.giveO (oN H n false) with
      | none => exact ldo_u3n HG a rt hcap hbase hc16 hd what n m hn h3 hx
      | some H2 => exact ldo_u3s HG a rt hcap hbase hc16 hd what n m hn h3 H2 hx
    · by_cases h4 : (what % ((6 : Nat) : Int)).toNat = 4
      · cases hs : isSz (sizeN m false) with
        | false => exact ldo_u4a HR a rt hcap hbase hc16 hd what n m hn hm h4 hs
        | true =>
          cases hx : H.trimO (oN H n false) (sizeN m false).toNat with
          | none => exact ldo_u4n HR a rt hcap hbase hc16 hd what n m hn hm h4 hs hx
          | some H2 => exact ldo_u4s HR a rt hcap hbase hc16 hd what n m hn hm h4 hs H2 hx
      · by_cases h5 : (what % ((6 : Nat) : Int)).toNat = 5
        · cases hx : usedB H.blks (oN H n false) with
          | none => exact ldo_u5n HU a rt hcap hbase hc16 hd what n m hn h5 hx
          | some i => exact ldo_u5s HU a rt hcap hbase hc16 hd what n m hn h5 i hx
        · cases hs : isSz (sizeN n false) with
          | false => exact ldo_u0a HT a rt hcap hbase hc16 hd what n m hn _ rfl h3 h4 h5 hs
          | true =>
            cases hx : (H.take (sizeN n false).toNat).1 with
            | none => exact ldo_u0n HT a rt hcap hbase hc16 hd what n m hn _ rfl h3 h4 h5 hs hx
            | some o2 => exact ldo_u0s HT a rt hcap hbase hc16 hd what n m hn _ rfl h3 h4 h5 hs o2 hx
  · by_cases h3 : (what % ((6 : Nat) : Int)).toNat = 3
    · cases hx : H.giveO (oN H n true) with
      | none => exact ldo_r3n HG a rt hcap hbase hc16 hd what n m hn h3 hx
      | some H2 => exact ldo_r3s HG a rt hcap hbase hc16 hd what n m hn h3 H2 hx
    · by_cases h4 : (what % ((6 : Nat) : Int)).toNat = 4
      · cases hs : isSz (sizeN m true) with
        | false => exact ldo_r4a HR a rt hcap hbase hc16 hd what n m hn hm h4 hs
        | true =>
          cases hx : H.trimO (oN H n true) (sizeN m true).toNat with
          | none => exact ldo_r4n HR a rt hcap hbase hc16 hd what n m hn hm h4 hs hx
          | some H2 => exact ldo_r4s HR a rt hcap hbase hc16 hd what n m hn hm h4 hs H2 hx
      · by_cases h5 : (what % ((6 : Nat) : Int)).toNat = 5
        · cases hx : usedB H.blks (oN H n true) with
          | none => exact ldo_r5n HU a rt hcap hbase hc16 hd what n m hn h5 hx
          | some i => exact ldo_r5s HU a rt hcap hbase hc16 hd what n m hn h5 i hx
        · cases hs : isSz (sizeN n true) with
          | false => exact ldo_r0a HT a rt hcap hbase hc16 hd what n m hn _ rfl h3 h4 h5 hs
          | true =>
            cases hx : (H.take (sizeN n true).toNat).1 with
            | none => exact ldo_r0n HT a rt hcap hbase hc16 hd what n m hn _ rfl h3 h4 h5 hs hx
            | some o2 => exact ldo_r0s HT a rt hcap hbase hc16 hd what n m hn _ rfl h3 h4 h5 hs o2 hx
end
end Go.Proofs.YtbemaoncakcnjaaGreat

/- The walk of AllocPlays: the head, the beginning of an arena and a heap, the deeds. -/
namespace Go.Proofs.YtbemaoncakcnjaaGreat
open Go.RowKit

/-- A deed of layer 12. -/
structure De where
  what : Int
  n : Int
  m : Int
  raw : Bool
/-- A slice of such. -/
def DeRd (w : World) (B : Nat) (A : Option Addr) (l : List De) : Prop := 0 < l.length → ∃ b o, A = some ⟨b, o, none⟩ ∧ b < B ∧ ∀ j x, l[j]? = some x →
  w.cell? ⟨b, o + j * 4, none⟩ = some (.int .i64 x.what) ∧ w.cell? ⟨b, o + j * 4 + 1, none⟩ = some (.int .i64 x.n) ∧ w.cell? ⟨b, o + j * 4 + 2, none⟩ = some (.int .i64 x.m) ∧ w.cell? ⟨b, o + j * 4 + 3, none⟩ = some (.bool x.raw) ∧
  (-9223372036854775808 ≤ x.what ∧ x.what ≤ 9223372036854775807) ∧ (-9223372036854775808 ≤ x.n ∧ x.n ≤ 9223372036854775807) ∧ (-9223372036854775808 ≤ x.m ∧ x.m ≤ 9223372036854775807)
theorem DeRd.below {w w' : World} {B : Nat} {A : Option Addr} {l : List De} (h : DeRd w B A l) (hb : Below B w w') : DeRd w' B A l := fun hn => by
  obtain ⟨b, o, e, hB, hc⟩ := h hn
  refine ⟨b, o, e, hB, fun j x hx => ?_⟩
  obtain ⟨h0, h1, h2, h3, h4⟩ := hc j x hx
  exact ⟨(hb.cell (p := ⟨b, _, none⟩) hB).trans h0, (hb.cell (p := ⟨b, _, none⟩) hB).trans h1, (hb.cell (p := ⟨b, _, none⟩) hB).trans h2, (hb.cell (p := ⟨b, _, none⟩) hB).trans h3, h4⟩

section
variable {P : Program} {ops : Array Oper} {Q : Exit → Act → World → Prop} {T : List Nat}
end

end Go.Proofs.YtbemaoncakcnjaaGreat

/- The walk of AllocPlays. -/
namespace Go.Proofs.YtbemaoncakcnjaaGreat
open Go.RowKit

section
theorem St.lift {w wB W : World} {g base cap c : Nat} {A : Option Addr} {bs : List UInt8} {L : List (Nat × Obj)} (h : St wB W g base cap A c bs L) (hb : Below w.heap.size w wB) : St w W g base cap A c bs L :=
  ⟨hb.trans (h.bel.mono hb.size), h.ar, Nat.le_trans hb.size h.gB, fun a e => Nat.le_trans hb.size (h.aB a e), h.has⟩
set_option maxHeartbeats 400000 in
theorem larena_no (w : World) (base : Nat) (hb : base < 18446744073709551616) (cap : Int) (hc : -9223372036854775808 ≤ cap ∧ cap ≤ 9223372036854775807) (h : cap < 1024 ∨ 16384 < cap) (B : Option Addr) (n k : Nat) :
    Calls Tryz.prog 5 #[.int .u64 (base : Int), .int .i64 cap, .slice B n k] w fun e w' => e = .returned (.pointer none) ∧ w = w' := by
  have HN := Lib.hid (new_no w base cap hb hc (.inr (.inr h)))
  clear h
  go_enter Tryz.func5, Tryz.ntmps5
  go_wp2_with fail
  refine HN.out.mono ?_
  rintro e w1 ⟨rfl, rfl⟩
  go_wp2
  go_ret
  exact ⟨rfl, rfl⟩
end
end Go.Proofs.YtbemaoncakcnjaaGreat

/- Slices of deeds of layer 12 that came in. -/
namespace Go.Proofs.YtbemaoncakcnjaaGreat
open Go.RowKit Go.ChangeShapes Go.WideShapes Go.Deep

section
variable {H : Type} {enc : TypeId × Value → H} {w : World} {base : Nat} {held : Bool} {fuel : Nat} {A : Option Addr} {len cap : Nat} {x : DataW H × List MemPlace}
set_option maxRecDepth 100000 in
theorem open_des (h : DataW.trod enc Tryz.prog w base (fun _ => true) held fuel 22 [.slice A len cap] = some x) : ∃ l : List De, l.length = len ∧ DeRd w w.heap.size A l ∧ len ≤ maxLen := by
  have hC : Tryz.prog.cellsOf 46 = 4 := by kernel_rfl
  have hone : oneCellFields Tryz.prog (match Tryz.prog.underlying 46 with
    | some (.struct fs) => fs
    | _ => #[]) = true := by kernel_rfl
  rw [Tryz.underlying46] at hone
  dsimp only at hone
  rcases open_slice Tryz.underlying22 h with ⟨hcs, _⟩ | ⟨a, l, c, m, n, D, Pl, hcs, _, hl, hm, hmm, _, hi⟩
  · simp at hcs
    obtain ⟨rfl, rfl, rfl⟩ := hcs
    exact ⟨[], rfl, fun hn => absurd hn (by simp), Nat.zero_le _⟩
  · simp at hcs
    obtain ⟨rfl, rfl, rfl⟩ := hcs
    simp only [if_true] at hmm
    subst hmm
    rw [hC] at hi
    obtain ⟨ds, hd, hp⟩ := list_of (p := fun i (d : De) => w.cell? (a.add (i * 4)) = some (.int .i64 d.what) ∧ w.cell? (a.add (i * 4 + 1)) = some (.int .i64 d.n) ∧ w.cell? (a.add (i * 4 + 2)) = some (.int .i64 d.m) ∧ w.cell? (a.add (i * 4 + 3)) = some (.bool d.raw) ∧
        (-9223372036854775808 ≤ d.what ∧ d.what ≤ 9223372036854775807) ∧ (-9223372036854775808 ≤ d.n ∧ d.n ≤ 9223372036854775807) ∧ (-9223372036854775808 ≤ d.m ∧ d.m ≤ 9223372036854775807)) len (fun i hil => by
      obtain ⟨cs', hc, ht⟩ := hi i (by omega)
      obtain ⟨_, hcl, hat⟩ := World.cells?_some hc
      obtain ⟨xs, n', _, _, _, hlen, hf⟩ := DataW.trod_struct Tryz.underlying46 ht
      match cs', hcl, xs, hlen with
      | [v0, v1, v2, v3], _, [y0, y1, y2, y3], _ =>
        have g0 := hf 0 _ rfl
        have g1 := hf 1 _ rfl
        have g2 := hf 2 _ rfl
        have g3 := hf 3 _ rfl
        rw [(hone_of hone 0 _ rfl).1, (hone_of hone 0 _ rfl).2] at g0
        rw [(hone_of hone 1 _ rfl).1, (hone_of hone 1 _ rfl).2] at g1
        rw [(hone_of hone 2 _ rfl).1, (hone_of hone 2 _ rfl).2] at g2
        rw [(hone_of hone 3 _ rfl).1, (hone_of hone 3 _ rfl).2] at g3
        simp only [List.drop_zero, List.drop_succ_cons, List.take_succ_cons, List.take_zero, List.getElem?_cons_zero, List.getElem?_cons_succ] at g0 g1 g2 g3
        obtain ⟨n0, h0, _, w0⟩ := DataW.trod_int Tryz.underlying3 g0
        obtain ⟨n1, h1, _, w1⟩ := DataW.trod_int Tryz.underlying3 g1
        obtain ⟨n2, h2, _, w2⟩ := DataW.trod_int Tryz.underlying3 g2
        obtain ⟨u, h3, _⟩ := DataW.trod_bool Tryz.underlying4 g3
        simp at h0 h1 h2 h3
        subst h0 h1 h2 h3
        have b0 := bounds_i64 w0
        have b1 := bounds_i64 w1
        have b2 := bounds_i64 w2
        have a0 := hat 0 (by omega)
        have a1 := hat 1 (by omega)
        have a2 := hat 2 (by omega)
        have a3 := hat 3 (by omega)
        rw [Go.Deep.add_add] at a0 a1 a2 a3
        exact ⟨⟨n0, n1, n2, u⟩, a0, a1, a2, a3, by dsimp only; omega, by dsimp only; omega, by dsimp only; omega⟩)
    refine ⟨ds, hd, fun hn => ?_, by omega⟩
    obtain ⟨d, hd0⟩ : ∃ d, ds[0]? = some d := ⟨ds[0], List.getElem?_eq_getElem hn⟩
    obtain ⟨h0, _⟩ := hp 0 d hd0
    rw [Nat.zero_mul] at h0
    obtain ⟨b, o, rfl, hlt, e⟩ := add_plain h0
    refine ⟨b, o, rfl, hlt, fun j d hj => ?_⟩
    obtain ⟨h0, h1, h2, h3, h4⟩ := hp j d hj
    rw [e] at h0 h1 h2 h3
    exact ⟨h0, h1, h2, h3, h4⟩
end
end Go.Proofs.YtbemaoncakcnjaaGreat
