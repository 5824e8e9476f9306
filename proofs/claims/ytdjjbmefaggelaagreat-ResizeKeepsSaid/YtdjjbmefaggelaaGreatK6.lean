/- Texts of mine, joined: Law13c. -/
import Derived.Test.YtdjjbmefaggelaaGreatK5

/- The walk of ResizeKeeps. -/
namespace Go.Proofs.YtdjjbmefaggelaaGreat
open Go.RowKit

/-- An arena of the law's own, and what Walk told of it. -/
structure Kp (wB W : World) (g cap : Nat) (A : Option Addr) (c : Nat) (bs : List UInt8) (B : Nat) (A7 : Option Addr) (L : List Bk) : Prop where
  st : St wB W g 0 cap A c bs []
  rd : BkRd W B A7 L
  far : ∀ a, A7 = some a → ¬ foot g A a.block
  lt : ∀ a, A7 = some a → a.block < B
  le : B ≤ W.heap.size
section
variable {wB W W' : World} {g cap c B : Nat} {A A7 : Option Addr} {bs out : List UInt8} {L : List Bk}
theorem Kp.below (h : Kp wB W g cap A c bs B A7 L) (hb : Below W.heap.size W W') : Kp wB W' g cap A c bs B A7 L :=
  ⟨h.st.below hb, h.rd.below (hb.mono h.le), h.far, h.lt, Nat.le_trans h.le hb.size⟩
theorem Kp.became (h : Kp wB W g cap A c bs B A7 L) (hb : Became 88 g 0 cap A out W W') : ∃ A' c', Kp wB W' g cap A' c' out B A7 L := by
  obtain ⟨A', c', har, ht, hA⟩ := hb
  refine ⟨A', c', ⟨h.st.bel.trans (ht.below (fun k hk => ?_) h.st.size), har, h.st.gB, fun a ha => ?_, fun q hq => by cases hq⟩, h.rd.tch h.le ht h.far, fun a ea hf => ?_, h.lt, Nat.le_trans h.le ht.size⟩
  · rcases hk with rfl | ⟨a, e, rfl⟩
    · exact h.st.gB
    · exact h.st.aB a e
  · rcases hA with e | e
    · exact h.st.aB a (e ▸ ha)
    · exact Nat.le_trans h.st.size (e a ha)
  · rcases hf with hf | ⟨a2, e2, hf⟩
    · exact h.far a ea (.inl hf)
    · rcases hA with e | e
      · exact h.far a ea (.inr ⟨a2, e ▸ e2, hf⟩)
      · have h1 := e a2 e2
        have h2 := h.lt a ea
        have h3 := h.le
        omega
end
theorem kfill {wB W : World} {g cap c B : Nat} {A A7 : Option Addr} {bs : List UInt8} {L : List Bk} (k : Kp wB W g cap A c bs B A7 L) (hl : bs.length ≤ 16384) (d n : Nat) (u : UInt8) (h : d + n ≤ bs.length) {x m v : Int} (hx : x = (d : Int)) (hm : m = (n : Int)) (hv : v = (u.toNat : Int)) :
    Calls Tryz.prog 18 #[.pointer (some ⟨g, 0, none⟩), .int .u64 x, .int .u64 m, .int .u8 v] W fun e w' => e = .returned .nilIface ∧ Tch (foot g A) W w' ∧ ∃ A' c', Kp wB w' g cap A' c' (lay bs d (List.replicate n u)) B A7 L := by
  subst hx hm hv
  refine (fill_ok k.st.ar (by omega) d n d u (by omega) (by omega) (by omega) h).mono ?_
  rintro e w' ⟨rfl, hb⟩
  refine ⟨rfl, ?_, k.became hb⟩
  obtain ⟨_, _, _, ht, _⟩ := hb
  exact ht
theorem Kp.at_ {wB W : World} {g cap c B : Nat} {A : Option Addr} {bs : List UInt8} {L : List Bk} {b o : Nat} (h : Kp wB W g cap A c bs B (some ⟨b, o, none⟩) L) {j : Nat} {x : Bk} (hx : L[j]? = some x) : W.cell? ⟨b, o + j * 3, none⟩ = some (.int .i64 (x.off : Int)) ∧ W.cell? ⟨b, o + j * 3 + 1, none⟩ = some (.int .i64 (x.size : Int)) ∧ W.cell? ⟨b, o + j * 3 + 2, none⟩ = some (.bool x.used) := by
  obtain ⟨b', o', e, _, hc⟩ := h.rd (by have := lst_lt hx; omega)
  injection e with e
  injection e with e1 e2
  subst e1 e2
  exact hc j x hx
theorem kload {wB W : World} {g cap c B : Nat} {A A7 : Option Addr} {bs : List UInt8} {L : List Bk} (k : Kp wB W g cap A c bs B A7 L) (hl : bs.length ≤ 16384) (d n : Nat) (h : d + n ≤ bs.length) (bb : List UInt8) (hbb : (bs.drop d).take n = bb) {x m : Int} (hx : x = (d : Int)) (hm : m = (n : Int)) :
    Calls Tryz.prog 21 #[.pointer (some ⟨g, 0, none⟩), .int .u64 x, .int .u64 m] W fun e w' => ∃ A' c', e = .returned (.tuple #[.slice A' n c', .nilIface]) ∧ w'.ownsRow W.heap.size 5 1 (.slice A' n c') n (bb.map bv) ∧ Below W.heap.size W w' := by
  subst hx hm hbb
  refine (load_ok k.st.ar (by omega) d n d (by omega) (by omega) (by omega) h).mono ?_
  rintro e w' ⟨A', c', rfl, ho, hb⟩
  have e1 : ((bs.drop d).take n).length = n := by rw [List.length_take, List.length_drop]; omega
  rw [e1] at ho ⊢
  exact ⟨A', c', rfl, ho, hb⟩
theorem load_at {bs : List UInt8} {d n j : Nat} (hj : j < n) : ((bs.drop d).take n)[j]? = bs[d + j]? := by
  rw [List.getElem?_take_of_lt hj, List.getElem?_drop]
theorem own_some {w : World} {base n : Nat} {t : TypeId} {A : Option Addr} {c : Nat} {xs : List Value} (h : w.ownsRow base t 1 (.slice A n c) n xs) (hn : 0 < n) : ∃ b, A = some ⟨b, 0, none⟩ := by
  rcases h.2 with ⟨_, h0⟩ | ⟨g, _, _, h', _⟩
  · omega
  · injection h' with e; exact ⟨g, e⟩
theorem mark_val (i : Nat) : ((markOf i).toNat : Int) = (i : Int) % 256 := by
  unfold markOf
  rw [UInt8.toNat_ofNat']
  omega
section
set_option maxRecDepth 100000 in
set_option maxHeartbeats 2000000 in
theorem rkp_no (HT : TakeK) (HZ : ResizeK) (w : World) (cap : Int) (hc : -9223372036854775808 ≤ cap ∧ cap ≤ 9223372036854775807) (hbad : cap < 1024 ∨ 16384 < cap) (A1 : Option Addr) (ll k1 : Nat) (nk nn : Int) :
    Calls Tryz.prog 4 #[.int .i64 cap, .slice A1 ll k1, .int .i64 nk, .int .i64 nn] w fun e w' => e = .returned (.bool true) ∧ Below w.heap.size w w' := by
  obtain ⟨z, hz⟩ : ∃ z, List.replicate 184 (0 : UInt8) = z := ⟨_, rfl⟩
  have HMK : ∀ W : World, (Instr.makeSlice 28 (.int .i64 184) (.int .i64 184)).run Tryz.prog W = .ok (.slice (some ⟨W.heap.size, 0, none⟩) 184 184) (W.alloc (.cells (rowB z) 5)) := run_mk0 184 (by omega) z hz
  have HUP := Lib.hid (up13_any HT HZ w)
  have HAN := Lib.hid (fun W B n k => larena_no W 0 (by omega) cap hc hbad B n k)
  clear HT HZ
  go_enter Tryz.func4, Tryz.ntmps4
  go_wp2_with fail
  refine HUP.out.mono ?_
  rintro e w1 ⟨rfl, hb⟩
  have HB1 := Lib.hid (hb.alloc (Nat.le_trans (Nat.le_refl _) hb.size) (.cells (rowB z) 5))
  clear hb HUP
  go_wp2_with fail
  refine (HAN.out _ _ 184 184).mono ?_
  rintro e w2 ⟨rfl, rfl⟩
  clear HAN HMK
  rcases hbad with h | h
  · go_wp2
    go_ret
    exact ⟨rfl, HB1.out⟩
  · have h2 : 1024 ≤ cap := by omega
    have h3 : decide (cap ≤ 16384) = false := decide_eq_false (by omega)
    go_wp2
    go_ret
    exact ⟨rfl, HB1.out⟩

set_option maxRecDepth 100000 in
set_option maxHeartbeats 2000000 in
theorem rkp_long (HT : TakeK) (HZ : ResizeK) (w : World) (cap : Nat) (h1 : 1024 ≤ cap) (h2 : cap ≤ 16384) (A1 : Option Addr) (ll k1 : Nat) (hll : 100 < ll) (nk nn : Int) :
    Calls Tryz.prog 4 #[.int .i64 (cap : Int), .slice A1 ll k1, .int .i64 nk, .int .i64 nn] w fun e w' => e = .returned (.bool true) ∧ Below w.heap.size w w' := by
  obtain ⟨z, hz⟩ : ∃ z, List.replicate 184 (0 : UInt8) = z := ⟨_, rfl⟩
  have hzl : z.length = 184 := by rw [← hz]; exact List.length_replicate
  have hr0 := rt_zero hz cap (by omega)
  have HMK : ∀ W : World, (Instr.makeSlice 28 (.int .i64 184) (.int .i64 184)).run Tryz.prog W = .ok (.slice (some ⟨W.heap.size, 0, none⟩) 184 184) (W.alloc (.cells (rowB z) 5)) := run_mk0 184 (by omega) z hz
  have har := fun (W : World) (B : Option Addr) (k : Nat) (hr : Rd W W.heap.size B 184 z) => arena_any W 0 cap B k z (by rw [hzl]; exact hr) (by omega) (by omega) h1 h2 (by omega)
  rw [hzl] at har
  have HAR := Lib.hid har
  have HZL := Lib.hid hzl
  have R0 := Lib.hid hr0
  have HUP := Lib.hid (up13_any HT HZ w)
  have HNW := Lib.hid (fun W => hNew_any W cap)
  have s1 : decide ((100 : Int) < (ll : Int)) = true := decide_eq_true (by omega)
  have s2 : decide ((cap : Int) ≤ 16384) = true := decide_eq_true (by omega)
  have s3 : decide ((1024 : Int) ≤ (cap : Int)) = true := decide_eq_true (by omega)
  clear har hz hzl hr0 HT HZ
  go_enter Tryz.func4, Tryz.ntmps4
  go_wp2_with fail
  refine HUP.out.mono ?_
  rintro e w1 ⟨rfl, hb⟩
  obtain ⟨w2, hw2⟩ : ∃ w2, w1.alloc (.cells (rowB z) 5) = w2 := ⟨_, rfl⟩
  have b2 : Below w1.heap.size w1 w2 := by rw [← hw2]; exact (Below.refl _ _).alloc (Nat.le_refl _) _
  have f2 : Fill w2 w1.heap.size 5 z := by rw [← hw2]; exact Fill.made w1 _ _
  have hrd := f2.reads
  rw [HZL.out] at hrd
  have HRD := Lib.hid hrd
  have HB2 := Lib.hid (hb.trans (b2.mono hb.size))
  have HW2 := Lib.hid hw2
  clear b2 f2 hrd hb hw2 HUP
  go_wp2_with (first | (rw [HW2.out]) | fail)
  refine (HAR.out w2 _ 184 HRD.out).mono ?_
  intro e w3 hmade
  obtain ⟨g, A, c, rfl, hst⟩ := St.made hmade
  have S3 := Lib.hid (hst.lift HB2.out)
  clear hst HAR HRD HB2 HMK hmade HW2
  have HE := Lib.hid S3.out.bel
  go_wp2
  go_ret
  exact ⟨rfl, HE.out⟩

set_option maxRecDepth 100000 in
set_option maxHeartbeats 16000000 in
theorem rkp_main (HT : TakeK) (HGv : GiveK) (HR : TrimK) (HU : UsedK) (HZ : ResizeK) (HWk : WalkC) (HGt : GetC) (HCk : CheckC) (w : World) (cap : Nat) (h1 : 1024 ≤ cap) (h2 : cap ≤ 16384) (A1 : Option Addr) (k1 : Nat) (l : List De) (hL : DeRd w w.heap.size A1 l) (hl : l.length ≤ 100) (nk nn : Int) :
    Calls Tryz.prog 4 #[.int .i64 (cap : Int), .slice A1 l.length k1, .int .i64 nk, .int .i64 nn] w fun e w' => e = .returned (.bool true) ∧ Below w.heap.size w w' := by
  obtain ⟨ll, hll⟩ : ∃ ll, l.length = ll := ⟨_, rfl⟩
  rw [hll] at hl ⊢
  have s1 : decide ((100 : Int) < (ll : Int)) = false := decide_eq_false (by omega)
  have HLL := Lib.hid hll
  have HL := Lib.hid hL
  clear hll hL
  obtain ⟨q, hq⟩ : ∃ q, (nn % ((900 : Nat) : Int)).toNat = q := ⟨_, rfl⟩
  have hq9 : q < 900 := by
    rw [← hq]
    have h1 := Int.emod_nonneg nn (b := ((900 : Nat) : Int)) (by omega)
    have h2 := Int.emod_lt_of_pos nn (b := ((900 : Nat) : Int)) (by omega)
    omega
  have HPK := Lib.hid (fun W => lpick_any nn 900 W (by omega) (by omega) q hq)
  clear hq
  obtain ⟨z, hz⟩ : ∃ z, List.replicate 184 (0 : UInt8) = z := ⟨_, rfl⟩
  have hzl : z.length = 184 := by rw [← hz]; exact List.length_replicate
  have hr0 := rt_zero hz cap (by omega)
  have HMK : ∀ W : World, (Instr.makeSlice 28 (.int .i64 184) (.int .i64 184)).run Tryz.prog W = .ok (.slice (some ⟨W.heap.size, 0, none⟩) 184 184) (W.alloc (.cells (rowB z) 5)) := run_mk0 184 (by omega) z hz
  have har := fun (W : World) (B : Option Addr) (k : Nat) (hr : Rd W W.heap.size B 184 z) => arena_any W 0 cap B k z (by rw [hzl]; exact hr) (by omega) (by omega) h1 h2 (by omega)
  rw [hzl] at har
  have HAR := Lib.hid har
  have HZL := Lib.hid hzl
  have R0 := Lib.hid hr0
  have HUP := Lib.hid (up13_any HT HZ w)
  have HNW := Lib.hid (fun W => hNew_any W cap)
  have HT := Lib.hid HT
  have HGv := Lib.hid HGv
  have HZ := Lib.hid HZ
  have HR := Lib.hid HR
  have HU := Lib.hid HU
  have HWk := Lib.hid HWk
  have HGt := Lib.hid HGt
  have HCk := Lib.hid HCk
  clear har hz hzl hr0 
  go_enter Tryz.func4, Tryz.ntmps4
  go_wp2_with fail
  refine HUP.out.mono ?_
  rintro e w1 ⟨rfl, hb⟩
  obtain ⟨w2, hw2⟩ : ∃ w2, w1.alloc (.cells (rowB z) 5) = w2 := ⟨_, rfl⟩
  have b2 : Below w1.heap.size w1 w2 := by rw [← hw2]; exact (Below.refl _ _).alloc (Nat.le_refl _) _
  have f2 : Fill w2 w1.heap.size 5 z := by rw [← hw2]; exact Fill.made w1 _ _
  have hrd := f2.reads
  rw [HZL.out] at hrd
  have HRD := Lib.hid hrd
  have HB2 := Lib.hid (hb.trans (b2.mono hb.size))
  have HW2 := Lib.hid hw2
  clear b2 f2 hrd hb hw2 HUP
  go_wp2_with (first | (rw [HW2.out]) | fail)
  refine (HAR.out w2 _ 184 HRD.out).mono ?_
  intro e w3 hmade
  obtain ⟨g, A, c, rfl, hst⟩ := St.made hmade
  have S3 := Lib.hid (hst.lift HB2.out)
  clear hst HAR HRD HB2 HMK hmade HW2
  go_wp2_with fail
  refine (HNW.out w3).mono ?_
  rintro e w4 ⟨p, rfl, hm, hb⟩
  obtain ⟨F4, a4⟩ := Al.made S3.out hm hb
  have A4 := Lib.hid a4
  clear hm hb a4 S3 HNW s1
  go_wp2
  go_loopw [12] (fun i wr => ∃ (j : Nat) (A : Option Addr) (c : Nat) (bs : List UInt8) (F : Nat → Prop) (H : Hp), i = .int .i64 (j : Int) ∧ j ≤ ll ∧ Al w wr g 0 cap A c bs F p H ∧ Rt bs H ∧ H.Dl ∧ H.cap = cap) (fun i _ => ll - (intOf i).toNat)
  case atStart => exact ⟨0, A, c, z, F4, _, rfl, Nat.zero_le _, A4.out, R0.out, rfl, rfl⟩
  case round =>
    obtain ⟨j, A, c, bs, F, H, rfl, hj, ha, hrt, hd, hc⟩ := hrel
    clear A4 R0
    by_cases hlt : j < ll
    · obtain ⟨x, hx⟩ : ∃ x, l[j]? = some x := ⟨l[j]'(by rw [HLL.out]; exact hlt), List.getElem?_eq_getElem _⟩
      obtain ⟨b1, o1, rfl, _, hc1⟩ := (HL.out.below ha.st.bel) (by rw [HLL.out]; omega)
      obtain ⟨q0, q1, q2, q3, _, hn, hm⟩ := hc1 j x hx
      obtain ⟨xw, xn, xm, xr⟩ := x
      dsimp only at q0 q1 q2 q3 hn hm
      have hji : (j : Int) < (ll : Int) := by omega
      have HDO := Lib.hid (ldo_any HT.out HGv.out HR.out HU.out ha hrt hc (by omega) h2 hd xw xn xm xr hn hm)
      clear hc1 hx ha hrt hd hc hn hm
      go_wp2_with fail
      refine HDO.out.mono ?_
      rintro e w5 ⟨rfl, A5, c5, bs5, F5, H5, ha, hrt, hd, hc⟩
      have A5 := Lib.hid ha
      have R5 := Lib.hid hrt
      have D5 := Lib.hid hd
      have C5 := Lib.hid hc
      clear ha hrt hd hc HDO q0 q1 q2 q3
      go_wp2
      go_roundw
      case rel => exact ⟨j + 1, _, _, _, _, _, by go_num, by omega, A5.out, R5.out, D5.out, C5.out⟩
      case measure => simp only [intOf]; omega
    · clear HL HLL
      have hok := hrt.ok (hc ▸ h2) hd
      have hn512 := hok.n
      have hlen : bs.length ≤ 16384 := Nat.le_trans (hc ▸ hrt.len) h2
      obtain ⟨Vb, Vd, gl, cs, hmm⟩ := ha.hm
      have HUS := Lib.hid (lused_any hmm (by omega) nk)
      have hole := usedN_le hok nk
      obtain ⟨o, hO⟩ : ∃ o, usedN H.blks nk = o := ⟨_, rfl⟩
      rw [hO] at HUS hole
      have A0 := Lib.hid ha
      have HRT := Lib.hid hrt
      have HOK := Lib.hid hok
      have HC := Lib.hid hc
      have HLEN := Lib.hid hlen
      have HO := Lib.hid hO
      clear hmm hrt hok hc hlen ha hd hO HR HU HGv HT
      go_wp2_with fail
      refine HUS.out.mono ?_
      rintro e w5 ⟨rfl, hb⟩
      have A5 := Lib.hid (A0.out.below hb)
      clear hb HUS A0
      rcases Nat.eq_zero_or_pos o with h0 | h0
      · subst h0
        have HE := Lib.hid A5.out.st.bel
        go_wp2
        go_ret
        exact ⟨rfl, HE.out⟩
      · have h00 : ((o : Int) == 0) = false := by rw [beq_eq_false_iff_ne]; omega
        have h01 : (0 : Int) < (o : Int) := by omega
        -- the block at o
        have hox : ∃ x ∈ H.blks, x.off = o ∧ x.used = true := by
          have h1 := HO.out
          unfold usedN at h1
          rw [List.getD_eq_getElem?_getD] at h1
          cases h2 : (usedL H.blks)[(nk % ((usedL H.blks).length : Int)).toNat]? with
          | none => rw [h2] at h1; simp at h1; omega
          | some y =>
            rw [h2] at h1
            have h1 : y = o := h1
            have hm := List.mem_of_getElem? h2
            unfold usedL at hm
            obtain ⟨x, hx, he⟩ := List.mem_map.1 hm
            obtain ⟨hx1, hx2⟩ := List.mem_filter.1 hx
            exact ⟨x, hx1, he.trans h1, hx2⟩
        have HOX := Lib.hid hox
        have hti := (walkB_tiles HRT.out.walk).2.1
        have HTI := Lib.hid hti
        have HWK := Lib.hid (HWk.out w5 g 0 cap c A bs (some H.blks) A5.out.st.ar (by omega) HLEN.out HRT.out.walk)
        obtain ⟨L, hLb⟩ : ∃ L, H.blks = L := ⟨_, rfl⟩
        obtain ⟨M, hM⟩ : ∃ M, L.length = M := ⟨_, rfl⟩
        rw [hLb] at HWK hn512 HOX HTI
        rw [hM] at hn512
        have HM := Lib.hid hM
        have HLB := Lib.hid hLb
        clear hM hLb hti hox HO
        go_wp2_with fail
        refine HWK.out.mono ?_
        rintro e w6 ⟨A7, c7, rfl, hown7, hb6⟩
        dsimp only [Option.getD, Option.isSome, errV] at hown7 ⊢
        obtain ⟨B6, hB6⟩ : ∃ B6, w6.heap.size = B6 := ⟨_, rfl⟩
        have hkp : Kp w w6 g cap A c bs B6 A7 L := by
          refine ⟨A5.out.st.below hb6, ?_, fun a ea hf => ?_, fun a ea => ?_, Nat.le_of_eq hB6.symm⟩
          · rw [← hB6]; exact BkRd.of_own hown7
          · have h1 := (hown7.lt a.block (by rw [ea]; rfl)).1
            have h2 := A5.out.st.ar.foot_lt hf
            omega
          · have h1 := (hown7.lt a.block (by rw [ea]; rfl)).2
            omega
        obtain ⟨b1, o1, rfl, _, _⟩ := hkp.rd (by obtain ⟨y, hy, _⟩ := HOX.out; exact List.length_pos_of_mem hy)
        rw [HM.out]
        have K6 := Lib.hid hkp
        have HMK0 : Hid (Marks L o 0 bs) := fun i x hi => absurd hi (by omega)
        clear hown7 hb6 hkp HWK A5 hB6
        go_wp2
        go_loopw [16, 17] (fun hv i wr => ∃ (j hn : Nat) (A : Option Addr) (c : Nat) (bs1 : List UInt8), hv = .int .i64 (hn : Int) ∧ i = .int .i64 (j : Int) ∧ j ≤ M ∧ Kp w wr g cap A c bs1 B6 (some ⟨b1, o1, none⟩) L ∧ Rt bs1 H ∧ bs1.length = bs.length ∧ Marks L o j bs1 ∧ hn ≤ 16384 ∧ ∀ i x, i < j → L[i]? = some x → x.off = o → hn = x.size) (fun _ i _ => M - (intOf i).toNat)
        case atStart => exact ⟨0, 0, A, c, bs, rfl, rfl, Nat.zero_le _, K6.out, HRT.out, rfl, HMK0.out, Nat.zero_le _, fun i x hi => absurd hi (by omega)⟩
        case round =>
          obtain ⟨j, hn, A, c, bs1, rfl, rfl, hj, hk, hrt, hbl, hmk, hn16, hhv⟩ := hrel
          clear K6 HMK0
          by_cases hlt : j < M
          · obtain ⟨x, hx⟩ : ∃ x, L[j]? = some x := ⟨L[j]'(by rw [HM.out]; exact hlt), List.getElem?_eq_getElem _⟩
            obtain ⟨p0, p1, p2⟩ := hk.at_ hx
            have hxl := List.mem_of_getElem? hx
            have hxm := (tile_mem _ _ _ HTI.out).2 x hxl
            have hxs := (isSz_iff _).1 hxm.2.2.1
            have hlen := HLEN.out
            have hji : (j : Int) < (M : Int) := by omega
            have K0 := Lib.hid hk
            have R0' := Lib.hid hrt
            have HBL := Lib.hid hbl
            have HMK1 := Lib.hid hmk
            have HHV := Lib.hid hhv
            have HX := Lib.hid hx
            have HXL := Lib.hid hxl
            obtain ⟨xo, xs, xu⟩ := x
            dsimp only at p0 p1 p2 hxm hxs
            have z1 : xo ≤ 16384 := by omega
            have z2 : xs ≤ 16384 := by omega
            have z3 : 32 ≤ xs := by omega
            have z4 : xo + xs ≤ bs.length := by omega
            have z5 : 184 ≤ xo := hxm.1
            have hj512 : j < 1000 := by omega
            clear hk hrt hbl hmk hhv hx hxl hxs hxm
            cases xu with
            | false =>
              -- it is no used one: not the one at o
              have hno : xo ≠ o := fun e => by
                obtain ⟨y, hy, hyo, hyu⟩ := HOX.out
                have := tile_one HTI.out (List.mem_of_getElem? HX.out) hy (by dsimp only; omega)
                rw [← this] at hyu
                cases hyu
              have g1 : ((xo : Int) == (o : Int)) = false := by rw [beq_eq_false_iff_ne]; omega
              have g1' : (xo == o) = false := by rw [beq_eq_false_iff_ne]; exact hno
              have HMK2 : Hid (Marks L o (j + 1) bs1) := fun i y hi hy hu => by
                rcases Nat.lt_or_ge i j with h | h
                · exact HMK1.out i y h hy hu
                · obtain rfl : i = j := by omega
                  rw [HX.out] at hy
                  injection hy with hy
                  rw [← hy] at hu
                  cases hu
              have HHV2 : Hid (∀ i x, i < j + 1 → L[i]? = some x → x.off = o → hn = x.size) := fun i y hi hy ho => by
                rcases Nat.lt_or_ge i j with h | h
                · exact HHV.out i y h hy ho
                · obtain rfl : i = j := by omega
                  rw [HX.out] at hy
                  injection hy with hy
                  rw [← hy] at ho
                  exact absurd ho hno
              clear HMK1 HHV hno
              go_wp2
              go_roundw
              case rel => exact ⟨j + 1, hn, _, _, _, rfl, by go_num, by omega, K0.out, R0'.out, HBL.out, HMK2.out, hn16, HHV2.out⟩
              case measure => simp only [intOf]; omega
            | true => as_aux_lemma =>
              obtain ⟨wd, hwd⟩ : ∃ wd, wr.drew = wd := ⟨_, rfl⟩
              have hbd : Below wr.heap.size wr wd := by rw [← hwd]; exact (Below.refl _ _).drew
              have hkd := K0.out.below hbd
              obtain ⟨s0, s1, _⟩ := hkd.at_ HX.out
              dsimp only at s0 s1
              have hfar := hkd.far _ rfl
              have KD := Lib.hid hkd
              have HWD := Lib.hid hwd
              have HFAR := Lib.hid hfar
              have hb1l := hkd.lt _ rfl
              have hb6l := hkd.le
              clear hwd hbd hkd hfar K0
              go_wp2_with fail
              refine wp_region_set (foot g A) [([0, 1, 2, 3, 4, 5, 6, 7, 8, 9, 10, 11, 12, 13, 14, 15, 16], 17)] [18] [] (by kernel_rfl) (by kernel_rfl) (by kernel_rfl) (fun _ _ _ _ _ h => h) ?_
              clear p0 p1 p2
              rw [HWD.out]
              have t0 : ∀ z : LaterS (foot g A) wd, z.val.cell? ⟨b1, o1 + j * 3, none⟩ = some (.int .i64 (xo : Int)) := fun z => z.ext.cell s0 HFAR.out
              have t1 : ∀ z : LaterS (foot g A) wd, z.val.cell? ⟨b1, o1 + j * 3 + 1, none⟩ = some (.int .i64 (xs : Int)) := fun z => z.ext.cell s1 HFAR.out
              refine set_cons (l := ?segF) ?hsegF ?_
              case hsegF => simp only [pick, List.getElem?_toArray, List.getElem?_cons_succ, List.getElem?_cons_zero]; rfl
              repeat (go_big_quiet_step (fail))
              refine wpQuiet_nil ?_
              clear t0 t1 s0 s1
              refine set_call (vs := #[.pointer (some ⟨g, 0, none⟩), .int .u64 ((xo : Int) + 8), .int .u64 ((xs : Int) - 16), .int .u8 ((j : Int) % 256)]) Tryz.call18 rfl rfl rfl (R := fun r w' => r = .nilIface ∧ ∃ A' c', Kp w w' g cap A' c' (lay bs1 (xo + 8) (List.replicate (xs - 16) (markOf j))) B6 (some ⟨b1, o1, none⟩) L) ((kfill KD.out (by rw [HBL.out]; exact hlen) (xo + 8) (xs - 16) (markOf j) (by rw [HBL.out]; omega) (by omega) (by omega) (mark_val j).symm).mono ?_) ?_
              · rintro e w' ⟨rfl, ht, A', c', hk⟩
                exact ⟨_, rfl, ht, rfl, A', c', hk⟩
              rintro r w7 _ ⟨rfl, A8, c8, hk⟩
              refine ⟨fun _ => False, fun _ _ h => absurd h id, ?_⟩
              obtain ⟨bs2, hb2⟩ : ∃ bs2, lay bs1 (xo + 8) (List.replicate (xs - 16) (markOf j)) = bs2 := ⟨_, rfl⟩
              have hag : AgreeB bs1 bs2 ⟨xo, xs, true⟩ := by rw [← hb2]; exact agree_lay (x := ⟨xo, xs, true⟩) (xo + 8) _ (Nat.le_refl _) (by rw [List.length_replicate]; show xo + 8 + (xs - 16) + 8 ≤ xo + xs; omega) (by rw [HBL.out]; exact z4)
              have hin : ∀ k, k + 16 < xs → bs2[xo + 8 + k]? = some (markOf j) := fun k hk => by
                rw [← hb2, lay_in bs1 (xo + 8) _ (by rw [HBL.out]; omega) k (by rw [List.length_replicate]; omega), List.getElem?_replicate, if_pos (by omega)]
              rw [hb2] at hk
              have K7 := Lib.hid hk
              have R7 := Lib.hid (R0'.out.fill (by rw [HLB.out]; exact HXL.out) rfl hag)
              have HBL7 : Hid (bs2.length = bs.length) := hag.1.trans HBL.out
              have HMK7 := Lib.hid (HMK1.out.agree HTI.out HX.out hag)
              have HIN := Lib.hid hin
              obtain ⟨p0, p1, _⟩ := hk.at_ HX.out
              dsimp only at p0 p1
              clear hk hag hin hb2 KD HWD HFAR R0' HBL HMK1
              refine set_last (l := ?laG) (t := []) ?hlaG rfl ?_
              case hlaG => simp only [pick, List.getElem?_toArray, List.getElem?_cons_succ, List.getElem?_cons_zero]; rfl
              simp only [Act.put, List.setIfInBounds_toArray, List.set_cons_zero, List.set_cons_succ]
              repeat (go_big_quiet_step (fail))
              refine wpQuiet_nil ?_
              by_cases hxo : xo = o
              · have HXO := Lib.hid hxo
                have g1 : ((xo : Int) == (o : Int)) = true := by rw [beq_iff_eq]; omega
                have g1' : (xo == o) = true := by rw [beq_iff_eq]; exact hxo
                have HHV2 : Hid (∀ i x, i < j + 1 → L[i]? = some x → x.off = o → xs = x.size) := fun i y hi hy ho => by
                  have := tile_one HTI.out (List.mem_of_getElem? hy) HXL.out (by dsimp only; omega)
                  rw [this]
                clear hxo HHV HIN
                go_wp2
                go_loopw [18] (fun i wr => ∃ (k : Nat) (A : Option Addr) (c : Nat) (bs2 : List UInt8), i = .int .i64 (k : Int) ∧ k + 16 ≤ xs ∧ Kp w wr g cap A c bs2 B6 (some ⟨b1, o1, none⟩) L ∧ Rt bs2 H ∧ bs2.length = bs.length ∧ Marks L o j bs2 ∧ ∀ k', k' < k → bs2[o + 8 + k']? = some (markOf (7 * k' + 1))) (fun i _ => xs - (intOf i).toNat)
                case atStart => exact ⟨0, A8, c8, bs2, rfl, by omega, K7.out, R7.out, HBL7.out, HMK7.out, fun k' hk => absurd hk (by omega)⟩
                case round =>
                  obtain ⟨k, A, c, bs2, rfl, hk16, hk, hrt, hbl, hmk, hms⟩ := hrel
                  clear K7 R7 HBL7 HMK7 p0 p1
                  obtain ⟨p0, p1, _⟩ := hk.at_ HX.out
                  dsimp only at p0 p1
                  have K8 := Lib.hid hk
                  have R8 := Lib.hid hrt
                  have HBL8 := Lib.hid hbl
                  have HMK8 := Lib.hid hmk
                  have HMS := Lib.hid hms
                  clear hk hrt hbl hmk hms
                  by_cases hkl : k + 16 < xs
                  · have hkl2 : (k : Int) < (xs : Int) - 16 := by omega
                    have hko : o + 8 + k + 1 ≤ bs.length := by have := HXO.out; omega
                    go_wp2_with fail
                    refine (kfill K8.out (by rw [HBL8.out]; exact hlen) (o + 8 + k) 1 (markOf (7 * k + 1)) (by rw [HBL8.out]; exact hko) (by omega) rfl (by rw [mark_val]; omega)).mono ?_
                    rintro e w8 ⟨rfl, _, A9, c9, hk⟩
                    obtain ⟨bs3, hb3⟩ : ∃ bs3, lay bs2 (o + 8 + k) (List.replicate 1 (markOf (7 * k + 1))) = bs3 := ⟨_, rfl⟩
                    have hag : AgreeB bs2 bs3 ⟨xo, xs, true⟩ := by rw [← hb3]; exact agree_lay (x := ⟨xo, xs, true⟩) (o + 8 + k) _ (by have := HXO.out; show xo + 8 ≤ _; omega) (by have := HXO.out; rw [List.length_replicate]; show o + 8 + k + 1 + 8 ≤ xo + xs; omega) (by rw [HBL8.out]; exact z4)
                    have hnew : bs3[o + 8 + k]? = some (markOf (7 * k + 1)) := by
                      have h := lay_in bs2 (o + 8 + k) (List.replicate 1 (markOf (7 * k + 1))) (by rw [HBL8.out]; omega) 0 (by simp)
                      rw [hb3] at h
                      simpa using h
                    have hold : ∀ q, q < o + 8 + k → bs3[q]? = bs2[q]? := fun q hq => by
                      rw [← hb3]
                      unfold lay
                      rw [List.getElem?_append_left (by rw [List.length_take, HBL8.out]; omega), List.getElem?_take_of_lt hq]
                    rw [hb3] at hk
                    have K9 := Lib.hid hk
                    have R9 := Lib.hid (R8.out.fill (by rw [HLB.out]; exact HXL.out) rfl hag)
                    have HBL9 : Hid (bs3.length = bs.length) := hag.1.trans HBL8.out
                    have HMK9 := Lib.hid (HMK8.out.agree HTI.out HX.out hag)
                    have HMS9 : Hid (∀ k', k' < k + 1 → bs3[o + 8 + k']? = some (markOf (7 * k' + 1))) := fun k' hk' => by
                      rcases Nat.lt_or_ge k' k with h | h
                      · rw [hold _ (by omega)]; exact HMS.out k' h
                      · obtain rfl : k' = k := by omega
                        exact hnew
                    clear hk hag hnew hold hb3 K8 R8 HBL8 HMK8 HMS p0 p1
                    go_wp2
                    go_roundw
                    case rel => exact ⟨k + 1, _, _, _, by go_num, by omega, K9.out, R9.out, HBL9.out, HMK9.out, HMS9.out⟩
                    case measure => simp only [intOf]; omega
                  · have HMK9 : Hid (Marks L o (j + 1) bs2) := fun i y hi hy hu => by
                      rcases Nat.lt_or_ge i j with h | h
                      · exact HMK8.out i y h hy hu
                      · obtain rfl : i = j := by omega
                        rw [HX.out] at hy
                        injection hy with hy
                        subst hy
                        exact ⟨fun hne => absurd HXO.out hne, fun _ k' hk' => HMS.out k' (by dsimp only at hk'; omega)⟩
                    clear HMK8 HMS
                    go_wp2
                    go_roundw
                    case rel => exact ⟨j + 1, xs, _, _, _, rfl, by go_num, by omega, K8.out, R8.out, HBL8.out, HMK9.out, z2, HHV2.out⟩
                    case measure => simp only [intOf]; omega
              · have g1 : ((xo : Int) == (o : Int)) = false := by rw [beq_eq_false_iff_ne]; omega
                have g1' : (xo == o) = false := by rw [beq_eq_false_iff_ne]; exact hxo
                have HHV2 : Hid (∀ i x, i < j + 1 → L[i]? = some x → x.off = o → hn = x.size) := fun i y hi hy ho => by
                  rcases Nat.lt_or_ge i j with h | h
                  · exact HHV.out i y h hy ho
                  · obtain rfl : i = j := by omega
                    rw [HX.out] at hy
                    injection hy with hy
                    rw [← hy] at ho
                    exact absurd ho hxo
                have HMK9 : Hid (Marks L o (j + 1) bs2) := fun i y hi hy hu => by
                  rcases Nat.lt_or_ge i j with h | h
                  · exact HMK7.out i y h hy hu
                  · obtain rfl : i = j := by omega
                    rw [HX.out] at hy
                    injection hy with hy
                    subst hy
                    refine ⟨fun _ k hk1 hk2 => ?_, fun he => absurd he hxo⟩
                    have := HIN.out (k - 8) (by dsimp only at hk2; omega)
                    rw [show xo + 8 + (k - 8) = xo + k by omega] at this
                    exact this
                clear hxo HHV HIN HMK7
                go_wp2
                go_roundw
                case rel => exact ⟨j + 1, hn, _, _, _, rfl, by go_num, by omega, K7.out, R7.out, HBL7.out, HMK9.out, hn16, HHV2.out⟩
                case measure => simp only [intOf]; omega
          · obtain rfl : M = j := by omega
            obtain ⟨y, hy, hyo, hyu⟩ := HOX.out
            obtain ⟨iy, hiy⟩ := List.mem_iff_getElem?.1 hy
            have hym := (tile_mem _ _ _ HTI.out).2 y hy
            have hys := (isSz_iff _).1 hym.2.2.1
            have hhn : hn = y.size := hhv iy y (by have := lst_lt hiy; rw [HM.out] at this; exact this) hiy hyo
            have hmo : ∀ k, k + 16 < hn → bs1[o + 8 + k]? = some (markOf (7 * k + 1)) := fun k hk => (hmk iy y (by have := lst_lt hiy; rw [HM.out] at this; exact this) hiy hyu).2 hyo k (by omega)
            have hmf : ∀ i x, L[i]? = some x → x.used = true → x.off ≠ o → ∀ k, 8 ≤ k → k + 8 < x.size → bs1[x.off + k]? = some (markOf i) := fun i x hx hu hne => (hmk i x (by have := lst_lt hx; rw [HM.out] at this; exact this) hx hu).1 hne
            have hlen := HLEN.out
            have hn32 : 32 ≤ hn := by omega
            obtain ⟨s, hs⟩ : ∃ s, 32 + 16 * q = s := ⟨_, rfl⟩
            have hsz : isSz (s : Int) = true := (isSz_iff _).2 (by omega)
            have hs32 : 32 ≤ s := by omega
            have hs16 : s ≤ 16384 := by omega
            have he1 : 32 + 16 * (q : Int) = (s : Int) := by omega
            have hend : o + hn ≤ bs.length := by rw [hhn, ← hyo]; exact hym.2.1
            have K1 := Lib.hid hk
            have R1 := Lib.hid hrt
            have HB1L := Lib.hid hbl
            have HMO := Lib.hid hmo
            have HMF := Lib.hid hmf
            have HSZ := Lib.hid hsz
            have HRZ := Lib.hid ((HZ.out wr g 0 cap c A bs1 H (o : Int) (s : Int) hk.st.ar (by omega) h2 HC.out hrt (by omega) (by omega)).2 hsz)
            have hyH : y ∈ H.blks := by rw [HLB.out]; exact hy
            have HY : Hid (y ∈ H.blks ∧ y.used = true ∧ y.off = o ∧ hn = y.size) := ⟨hyH, hyu, hyo, hhn⟩
            clear hk hrt hbl hmk hhv hmo hmf hsz hs hlen hym hys hy hyH hiy hyu hyo hhn
            have hmin := Nat.lt_or_ge s hn
            go_wp2_with fail
            refine (HPK.out _).mono ?_
            rintro e w8 ⟨rfl, rfl⟩
            go_wp2_with fail
            refine HRZ.out.mono ?_
            intro e w9 hT
            rw [Int.toNat_natCast] at hT
            clear HRZ HPK
            by_cases herr : (H.resize (o : Int) s).1.2 = 0
            · obtain ⟨rfl, out, hbe, rt2, hheld, hmoved⟩ := hT.1 herr
              obtain ⟨A9, c9, k9⟩ := K1.out.became hbe
              obtain ⟨y2, hy2, hyu2, hyo2, hys2⟩ := R1.out.rezHas HOK.out HSZ.out herr
              obtain ⟨pq, hpq⟩ : ∃ pq, (H.resize (o : Int) s).1.1 = pq := ⟨_, rfl⟩
              rw [hpq] at hyo2 hmoved ⊢
              have hol : out.length ≤ 16384 := Nat.le_trans rt2.len (by rw [resize_cap, HC.out]; exact h2)
              have hy2m := (tile_mem _ _ _ (walkB_tiles rt2.walk).2.1).2 y2 hy2
              obtain ⟨hyH, hyu, hyo, hhn⟩ := HY.out
              have hf3 : ∀ i x, L[i]? = some x → x.used = true → x.off ≠ o → getB out (x.off : Int) = some x ∧ ∀ k, 8 ≤ k → k + 8 < x.size → out[x.off + k]? = some (markOf i) := fun i x hx hu hne => by
                have hxH : x ∈ H.blks := by rw [HLB.out]; exact List.mem_of_getElem? hx
                have hx2 := R1.out.rezMem HOK.out HSZ.out hxH hu (o := (o : Int)) (by omega)
                refine ⟨(walkB_tiles rt2.walk).2.2 x hx2, fun k h1 h2 => ?_⟩
                rw [hheld x hxH hu x hx2 hu rfl (x.off + k) (by omega) (by omega) (by omega)]
                exact HMF.out i x hx hu hne k h1 h2
              have KN := Lib.hid k9
              have HOL := Lib.hid hol
              have HRO := Lib.hid rt2
              have HF3 := Lib.hid hf3
              rcases hmin with hmin | hmin
              · as_aux_lemma =>
                  obtain ⟨bt, hbt⟩ : ∃ bt : Nat, (s : Int) - 16 = (bt : Int) := ⟨s - 16, by omega⟩
                  have hmin2 : (s : Int) < (hn : Int) := by omega
                  have hf1 : pq + 8 + bt ≤ out.length := by omega
                  have hf2 : ∀ k, k < bt → out[pq + 8 + k]? = some (markOf (7 * k + 1)) := fun k hk => by
                    have h := hmoved y hyH hyu (by omega) y2 hy2 hyu2 hyo2 (8 + k) (by omega) (by omega) (by omega)
                    rw [show pq + 8 + k = pq + (8 + k) by omega, h, hyo, show o + (8 + k) = o + 8 + k by omega]
                    exact HMO.out k (by omega)
                  have HF1 := Lib.hid hf1
                  have HF2 := Lib.hid hf2
                  have hbt16 : 16 ≤ bt := by omega
                  have hbtl : bt ≤ 16384 := by omega
                  have hpq16 : pq ≤ 16384 := by omega
                  clear hT herr hbe rt2 hheld hmoved k9 hy2 hyu2 hyo2 hys2 hpq hol hy2m hyH hyu hyo hhn hf3 hf1 hf2 hmin K1 R1 HMO HMF HY
                  dsimp only [errV]
                  go_wp2_with fail
                  refine (HCk.out w9 g 0 cap c9 A9 out true KN.out.st.ar (by omega) HOL.out HRO.out.chk).mono ?_
                  rintro e w12 ⟨rfl, hb⟩
                  have K12 := Lib.hid (KN.out.below hb)
                  clear hb
                  dsimp only [errV]
                  obtain ⟨bb, hbb⟩ : ∃ bb, (out.drop (pq + 8)).take bt = bb := ⟨_, rfl⟩
                  go_wp2_with fail
                  refine (kload K12.out HOL.out (pq + 8) bt HF1.out bb hbb (by omega) rfl).mono ?_
                  rintro e w13 ⟨A13, c13, rfl, ho, hb⟩
                  obtain ⟨b13, rfl⟩ := own_some ho (by omega)
                  have K13 := Lib.hid (K12.out.below hb)
                  have HBY : Hid (∀ k, k < bt → w13.cell? ⟨b13, k, none⟩ = some (.int .u8 ((7 * (k : Int) + 1) % 256))) := fun k hk => by
                    have h1 := ho.cellAt k (by omega)
                    rw [List.getElem?_map, ← hbb, load_at hk, HF2.out k hk] at h1
                    have h2 : w13.cell? ⟨b13, k, none⟩ = some (.int .u8 ((markOf (7 * k + 1)).toNat : Int)) := h1
                    rw [h2, mark_val]
                    congr 2
                  clear ho hb hbb K12
                  go_wp2
                  go_loopw [24] (fun i wr => ∃ k : Nat, i = .int .i64 (k : Int) ∧ k ≤ bt ∧ w13 = wr) (fun i _ => bt - (intOf i).toNat)
                  case atStart => exact ⟨0, rfl, Nat.zero_le _, rfl⟩
                  case round =>
                    obtain ⟨k, rfl, hk, rfl⟩ := hrel
                    by_cases hkl : k < bt
                    · have hce := HBY.out k hkl
                      have hki : (k : Int) < (bt : Int) := by omega
                      go_wp2
                      go_roundw
                      case rel => exact ⟨k + 1, by go_num, by omega, trivial⟩
                      case measure => simp only [intOf]; omega
                    · clear HBY
                      go_wp2
                      go_loopw [25] (fun i wr => ∃ j : Nat, i = .int .i64 (j : Int) ∧ j ≤ M ∧ Kp w wr g cap A9 c9 out B6 (some ⟨b1, o1, none⟩) L) (fun i _ => M - (intOf i).toNat)
                      case atStart => exact ⟨0, rfl, Nat.zero_le _, K13.out⟩
                      case round =>
                        obtain ⟨j, rfl, hj, hk⟩ := hrel
                        clear K13
                        by_cases hlt : j < M
                        · obtain ⟨x, hx⟩ : ∃ x, L[j]? = some x := ⟨L[j]'(by rw [HM.out]; exact hlt), List.getElem?_eq_getElem _⟩
                          obtain ⟨p0, p1, p2⟩ := hk.at_ hx
                          have hxl := List.mem_of_getElem? hx
                          have hxm := (tile_mem _ _ _ HTI.out).2 x hxl
                          have hxs := (isSz_iff _).1 hxm.2.2.1
                          have hlen := HLEN.out
                          have hji : (j : Int) < (M : Int) := by omega
                          have hj512 : j < 1000 := by omega
                          have KX := Lib.hid hk
                          have HX := Lib.hid hx
                          have hf3 := HF3.out j x hx
                          obtain ⟨xo, xs, xu⟩ := x
                          dsimp only at p0 p1 p2 hxm hxs hf3
                          have z1 : xo ≤ 16384 := by omega
                          have z2 : xs ≤ 16384 := by omega
                          have z3 : 32 ≤ xs := by omega
                          clear hk hx hxl hxm hxs hlen
                          cases xu with
                          | false =>
                            clear hf3
                            go_wp2
                            go_roundw
                            case rel => exact ⟨j + 1, by go_num, by omega, KX.out⟩
                            case measure => simp only [intOf]; omega
                          | true =>
                            by_cases hxo : xo = o
                            · have g1 : ((xo : Int) == (o : Int)) = true := by rw [beq_iff_eq]; omega
                              have g1' : (xo == o) = true := by rw [beq_iff_eq]; exact hxo
                              clear hf3 hxo
                              go_wp2
                              go_roundw
                              case rel => exact ⟨j + 1, by go_num, by omega, KX.out⟩
                              case measure => simp only [intOf]; omega
                            · have g1 : ((xo : Int) == (o : Int)) = false := by rw [beq_eq_false_iff_ne]; omega
                              have g1' : (xo == o) = false := by rw [beq_eq_false_iff_ne]; exact hxo
                              obtain ⟨hget, hbyt⟩ := hf3 rfl hxo
                              have hgb := getB_some hget
                              have hxol : xo + xs ≤ out.length := by have := hgb.2.2.2.1; have := hgb.2.2.2.2; omega
                              have HGE := Lib.hid (HGt.out wr g 0 cap c9 A9 out (xo : Int) _ KX.out.st.ar (by omega) HOL.out (by omega) hget)
                              have HBT := Lib.hid hbyt
                              clear hf3 hget hbyt hgb hxo
                              go_wp2_with fail
                              refine HGE.out.mono ?_
                              rintro e wg ⟨rfl, hb⟩
                              have kg := KX.out.below hb
                              dsimp only [errV, bkV, Bk.val, Option.isSome]
                              obtain ⟨wx, hwx⟩ : ∃ wx, wg.alloc (.cells #[.int .i64 (xo : Int), .int .i64 (xs : Int), .bool true] 53) = wx := ⟨_, rfl⟩
                              obtain ⟨gx, hgx⟩ : ∃ gx, wg.heap.size = gx := ⟨_, rfl⟩
                              have hbx : Below wg.heap.size wg wx := by rw [← hwx]; exact (Below.refl _ _).alloc (Nat.le_refl _) _
                              have hnx : wx.heap[gx]? = some (.cells #[.int .i64 (xo : Int), .int .i64 (xs : Int), .bool true] 53 (0, 0)) := by rw [← hwx, ← hgx]; exact heap_alloc_new wg _
                              have kx := kg.below hbx
                              obtain ⟨wd, hwd⟩ : ∃ wd, wx.drew = wd := ⟨_, rfl⟩
                              have hbd : Below wx.heap.size wx wd := by rw [← hwd]; exact (Below.refl _ _).drew
                              have kd := kx.below hbd
                              have hnd : wd.heap[gx]? = some (.cells #[.int .i64 (xo : Int), .int .i64 (xs : Int), .bool true] 53 (0, 0)) := (hbd.block gx (heap_lt hnx)).trans hnx
                              obtain ⟨s0, s1, s2⟩ := kd.at_ HX.out
                              dsimp only at s0 s1 s2
                              have hb1l := kd.lt _ rfl
                              have hb6l := kd.le
                              have hb1d : b1 < wd.heap.size := by dsimp only at hb1l; omega
                              have KD := Lib.hid kd
                              have HND := Lib.hid hnd
                              have HWX := Lib.hid hwx
                              have HGX := Lib.hid hgx
                              have HWD := Lib.hid hwd
                              obtain ⟨cb, hcb⟩ : ∃ cb, (out.drop (xo + 8)).take (xs - 16) = cb := ⟨_, rfl⟩
                              have HLD := Lib.hid (kload kd HOL.out (xo + 8) (xs - 16) (by omega) cb hcb (x := (xo : Int) + 8) (m := (xs : Int) - 16) (by omega) (by omega))
                              have HCB := Lib.hid hcb
                              clear hb kg hwx hgx hbx hnx kx hwd hbd kd hnd hcb HGE KX hb1l
                              go_wp2_with (first | (rw [HWX.out, HGX.out]) | fail)
                              refine wp_region_tail wd.heap.size [([0, 1, 2, 3, 4, 5, 6, 7, 8, 9, 10, 11, 12, 13, 14], 15)] [16, 17, 18, 19, 20] [] (by kernel_rfl) (by kernel_rfl) (by kernel_rfl) (fun _ _ _ _ _ h => h) ?_
                              rw [HWD.out]
                              clear p0 p1 p2
                              have t0 : ∀ z : LaterB wd.heap.size wd, z.val.cell? ⟨b1, o1 + j * 3, none⟩ = some (.int .i64 (xo : Int)) := fun z => (z.ext.cell (p := ⟨b1, o1 + j * 3, none⟩) hb1d).trans s0
                              have t1 : ∀ z : LaterB wd.heap.size wd, z.val.cell? ⟨b1, o1 + j * 3 + 1, none⟩ = some (.int .i64 (xs : Int)) := fun z => (z.ext.cell (p := ⟨b1, o1 + j * 3 + 1, none⟩) hb1d).trans s1
                              refine tail_cons (l := ?segLa) ?hsegLa ?_
                              case hsegLa => simp only [pick, List.getElem?_toArray, List.getElem?_cons_succ, List.getElem?_cons_zero]; rfl
                              repeat (go_big_quiet_step (fail))
                              refine wpQuiet_nil ?_
                              clear t0 t1 s0 s1 s2
                              refine tail_call (vs := #[.pointer (some ⟨g, 0, none⟩), .int .u64 ((xo : Int) + 8), .int .u64 ((xs : Int) - 16)]) Tryz.call21 rfl rfl rfl (R := fun r w' => ∃ A' c', r = .tuple #[.slice A' (xs - 16) c', .nilIface] ∧ w'.ownsRow wd.heap.size 5 1 (.slice A' (xs - 16) c') (xs - 16) (cb.map bv) ∧ Below wd.heap.size wd w') (HLD.out.mono ?_) wd.heap.size (Nat.le_refl _) ?_
                              · rintro e w' ⟨A', c', rfl, ho, hb⟩
                                exact ⟨_, rfl, hb, A', c', rfl, ho, hb⟩
                              rintro r w14 _ ⟨A14, c14, rfl, ho, hb⟩
                              obtain ⟨b14, rfl⟩ := own_some ho (by omega)
                              have k14 := KD.out.below hb
                              have n14 := (hb.block gx (heap_lt HND.out)).trans HND.out
                              have HBY : Hid (∀ k, k < xs - 16 → w14.cell? ⟨b14, k, none⟩ = some (.int .u8 ((j : Int) % 256))) := fun k hk => by
                                have h1 := ho.cellAt k (by omega)
                                rw [List.getElem?_map, ← HCB.out, load_at hk, show xo + 8 + k = xo + (8 + k) by omega, HBT.out (8 + k) (by omega) (by omega)] at h1
                                have h2 : w14.cell? ⟨b14, k, none⟩ = some (.int .u8 ((markOf j).toNat : Int)) := h1
                                rw [h2, mark_val]
                              have hb14 : b14 < w14.heap.size := (ho.lt b14 rfl).2
                              obtain ⟨we, hwe⟩ : ∃ we, w14.drew = we := ⟨_, rfl⟩
                              have hbe : Below w14.heap.size w14 we := by rw [← hwe]; exact (Below.refl _ _).drew
                              have ke := k14.below hbe
                              obtain ⟨s0, s1, s2⟩ := ke.at_ HX.out
                              dsimp only at s0 s1 s2
                              obtain ⟨x0, x1, x2⟩ := (blk_cells ((hbe.block gx (heap_lt n14)).trans n14)).1
                              have hgxe : gx < we.heap.size := Nat.lt_of_lt_of_le (heap_lt n14) hbe.size
                              have hb1e : b1 < we.heap.size := Nat.lt_of_lt_of_le hb1d (Nat.le_trans hb.size hbe.size)
                              have HBYE : Hid (∀ k, k < xs - 16 → we.cell? ⟨b14, k, none⟩ = some (.int .u8 ((j : Int) % 256))) := fun k hk => (hbe.cell (p := ⟨b14, k, none⟩) hb14).trans (HBY.out k hk)
                              have KE := Lib.hid ke
                              have HWE := Lib.hid hwe
                              have hxs16 : ((xs - 16 : Nat) : Int) = (xs : Int) - 16 := by omega
                              clear ho hb k14 n14 hbe ke hwe HBY KD HLD HND HWX HWD HCB HBT
                              refine tail_last (l := ?laMa) (t := []) ?hlaMa rfl ?_
                              case hlaMa => simp only [pick, List.getElem?_toArray, List.getElem?_cons_succ, List.getElem?_cons_zero]; rfl
                              simp only [Act.put, List.setIfInBounds_toArray, List.set_cons_zero, List.set_cons_succ]
                              repeat (go_big_quiet_step (fail))
                              refine wpQuiet_nil ?_
                              go_wp2_with fail
                              refine wp_region_tail we.heap.size [] [0, 1, 2, 3, 4, 5, 6, 7, 8, 9, 10, 11, 12, 13] [] (by kernel_rfl) (by kernel_rfl) (by kernel_rfl) (fun _ _ _ _ _ h => h) ?_
                              rw [HWE.out]
                              have t0 : ∀ z : LaterB we.heap.size we, z.val.cell? ⟨b1, o1 + j * 3, none⟩ = some (.int .i64 (xo : Int)) := fun z => (z.ext.cell (p := ⟨b1, o1 + j * 3, none⟩) hb1e).trans s0
                              have t1 : ∀ z : LaterB we.heap.size we, z.val.cell? ⟨b1, o1 + j * 3 + 1, none⟩ = some (.int .i64 (xs : Int)) := fun z => (z.ext.cell (p := ⟨b1, o1 + j * 3 + 1, none⟩) hb1e).trans s1
                              have t2 : ∀ z : LaterB we.heap.size we, z.val.cell? ⟨b1, o1 + j * 3 + 2, none⟩ = some (.bool true) := fun z => (z.ext.cell (p := ⟨b1, o1 + j * 3 + 2, none⟩) hb1e).trans s2
                              have t3 : ∀ z : LaterB we.heap.size we, z.val.cell? ⟨gx, 0, none⟩ = some (.int .i64 (xo : Int)) := fun z => (z.ext.cell (p := ⟨gx, 0, none⟩) hgxe).trans x0
                              have t4 : ∀ z : LaterB we.heap.size we, z.val.cell? ⟨gx, 1, none⟩ = some (.int .i64 (xs : Int)) := fun z => (z.ext.cell (p := ⟨gx, 1, none⟩) hgxe).trans x1
                              have t5 : ∀ z : LaterB we.heap.size we, z.val.cell? ⟨gx, 2, none⟩ = some (.bool true) := fun z => (z.ext.cell (p := ⟨gx, 2, none⟩) hgxe).trans x2
                              refine tail_last (l := ?laNa) (t := []) ?hlaNa rfl ?_
                              case hlaNa => simp only [pick, List.getElem?_toArray, List.getElem?_cons_succ, List.getElem?_cons_zero]; rfl
                              repeat (go_big_quiet_step (fail))
                              refine wpQuiet_nil ?_
                              clear t0 t1 t2 t3 t4 t5 s0 s1 s2 x0 x1 x2
                              go_wp2
                              go_loopw [30] (fun i wr => ∃ k : Nat, i = .int .i64 (k : Int) ∧ k ≤ xs - 16 ∧ we = wr) (fun i _ => xs - (intOf i).toNat)
                              case atStart => exact ⟨0, rfl, Nat.zero_le _, rfl⟩
                              case round =>
                                obtain ⟨k, rfl, hk, rfl⟩ := hrel
                                by_cases hkl : k < xs - 16
                                · have hce := HBYE.out k hkl
                                  have hki : (k : Int) < (xs : Int) - 16 := by omega
                                  go_wp2
                                  go_roundw
                                  case rel => exact ⟨k + 1, by go_num, by omega, trivial⟩
                                  case measure => simp only [intOf]; omega
                                · have hki : (xs : Int) - 16 ≤ (k : Int) := by omega
                                  clear HBYE
                                  go_wp2
                                  go_roundw
                                  case rel => exact ⟨j + 1, by go_num, by omega, KE.out⟩
                                  case measure => simp only [intOf]; omega
                        · have HE := Lib.hid hk.st.bel
                          clear hk
                          go_wp2
                          go_ret
                          exact ⟨rfl, HE.out⟩
              · as_aux_lemma =>
                  obtain ⟨bt, hbt⟩ : ∃ bt : Nat, (hn : Int) - 16 = (bt : Int) := ⟨hn - 16, by omega⟩
                  have hmin2 : (hn : Int) ≤ (s : Int) := by omega
                  have hf1 : pq + 8 + bt ≤ out.length := by omega
                  have hf2 : ∀ k, k < bt → out[pq + 8 + k]? = some (markOf (7 * k + 1)) := fun k hk => by
                    have h := hmoved y hyH hyu (by omega) y2 hy2 hyu2 hyo2 (8 + k) (by omega) (by omega) (by omega)
                    rw [show pq + 8 + k = pq + (8 + k) by omega, h, hyo, show o + (8 + k) = o + 8 + k by omega]
                    exact HMO.out k (by omega)
                  have HF1 := Lib.hid hf1
                  have HF2 := Lib.hid hf2
                  have hbt16 : 16 ≤ bt := by omega
                  have hbtl : bt ≤ 16384 := by omega
                  have hpq16 : pq ≤ 16384 := by omega
                  clear hT herr hbe rt2 hheld hmoved k9 hy2 hyu2 hyo2 hys2 hpq hol hy2m hyH hyu hyo hhn hf3 hf1 hf2 hmin K1 R1 HMO HMF HY
                  dsimp only [errV]
                  go_wp2_with fail
                  refine (HCk.out w9 g 0 cap c9 A9 out true KN.out.st.ar (by omega) HOL.out HRO.out.chk).mono ?_
                  rintro e w12 ⟨rfl, hb⟩
                  have K12 := Lib.hid (KN.out.below hb)
                  clear hb
                  dsimp only [errV]
                  obtain ⟨bb, hbb⟩ : ∃ bb, (out.drop (pq + 8)).take bt = bb := ⟨_, rfl⟩
                  go_wp2_with fail
                  refine (kload K12.out HOL.out (pq + 8) bt HF1.out bb hbb (by omega) rfl).mono ?_
                  rintro e w13 ⟨A13, c13, rfl, ho, hb⟩
                  obtain ⟨b13, rfl⟩ := own_some ho (by omega)
                  have K13 := Lib.hid (K12.out.below hb)
                  have HBY : Hid (∀ k, k < bt → w13.cell? ⟨b13, k, none⟩ = some (.int .u8 ((7 * (k : Int) + 1) % 256))) := fun k hk => by
                    have h1 := ho.cellAt k (by omega)
                    rw [List.getElem?_map, ← hbb, load_at hk, HF2.out k hk] at h1
                    have h2 : w13.cell? ⟨b13, k, none⟩ = some (.int .u8 ((markOf (7 * k + 1)).toNat : Int)) := h1
                    rw [h2, mark_val]
                    congr 2
                  clear ho hb hbb K12
                  go_wp2
                  go_loopw [24] (fun i wr => ∃ k : Nat, i = .int .i64 (k : Int) ∧ k ≤ bt ∧ w13 = wr) (fun i _ => bt - (intOf i).toNat)
                  case atStart => exact ⟨0, rfl, Nat.zero_le _, rfl⟩
                  case round =>
                    obtain ⟨k, rfl, hk, rfl⟩ := hrel
                    by_cases hkl : k < bt
                    · have hce := HBY.out k hkl
                      have hki : (k : Int) < (bt : Int) := by omega
                      go_wp2
                      go_roundw
                      case rel => exact ⟨k + 1, by go_num, by omega, trivial⟩
                      case measure => simp only [intOf]; omega
                    · clear HBY
                      go_wp2
                      go_loopw [25] (fun i wr => ∃ j : Nat, i = .int .i64 (j : Int) ∧ j ≤ M ∧ Kp w wr g cap A9 c9 out B6 (some ⟨b1, o1, none⟩) L) (fun i _ => M - (intOf i).toNat)
                      case atStart => exact ⟨0, rfl, Nat.zero_le _, K13.out⟩
                      case round =>
                        obtain ⟨j, rfl, hj, hk⟩ := hrel
                        clear K13
                        by_cases hlt : j < M
                        · obtain ⟨x, hx⟩ : ∃ x, L[j]? = some x := ⟨L[j]'(by rw [HM.out]; exact hlt), List.getElem?_eq_getElem _⟩
                          obtain ⟨p0, p1, p2⟩ := hk.at_ hx
                          have hxl := List.mem_of_getElem? hx
                          have hxm := (tile_mem _ _ _ HTI.out).2 x hxl
                          have hxs := (isSz_iff _).1 hxm.2.2.1
                          have hlen := HLEN.out
                          have hji : (j : Int) < (M : Int) := by omega
                          have hj512 : j < 1000 := by omega
                          have KX := Lib.hid hk
                          have HX := Lib.hid hx
                          have hf3 := HF3.out j x hx
                          obtain ⟨xo, xs, xu⟩ := x
                          dsimp only at p0 p1 p2 hxm hxs hf3
                          have z1 : xo ≤ 16384 := by omega
                          have z2 : xs ≤ 16384 := by omega
                          have z3 : 32 ≤ xs := by omega
                          clear hk hx hxl hxm hxs hlen
                          cases xu with
                          | false =>
                            clear hf3
                            go_wp2
                            go_roundw
                            case rel => exact ⟨j + 1, by go_num, by omega, KX.out⟩
                            case measure => simp only [intOf]; omega
                          | true =>
                            by_cases hxo : xo = o
                            · have g1 : ((xo : Int) == (o : Int)) = true := by rw [beq_iff_eq]; omega
                              have g1' : (xo == o) = true := by rw [beq_iff_eq]; exact hxo
                              clear hf3 hxo
                              go_wp2
                              go_roundw
                              case rel => exact ⟨j + 1, by go_num, by omega, KX.out⟩
                              case measure => simp only [intOf]; omega
                            · have g1 : ((xo : Int) == (o : Int)) = false := by rw [beq_eq_false_iff_ne]; omega
                              have g1' : (xo == o) = false := by rw [beq_eq_false_iff_ne]; exact hxo
                              obtain ⟨hget, hbyt⟩ := hf3 rfl hxo
                              have hgb := getB_some hget
                              have hxol : xo + xs ≤ out.length := by have := hgb.2.2.2.1; have := hgb.2.2.2.2; omega
                              have HGE := Lib.hid (HGt.out wr g 0 cap c9 A9 out (xo : Int) _ KX.out.st.ar (by omega) HOL.out (by omega) hget)
                              have HBT := Lib.hid hbyt
                              clear hf3 hget hbyt hgb hxo
                              go_wp2_with fail
                              refine HGE.out.mono ?_
                              rintro e wg ⟨rfl, hb⟩
                              have kg := KX.out.below hb
                              dsimp only [errV, bkV, Bk.val, Option.isSome]
                              obtain ⟨wx, hwx⟩ : ∃ wx, wg.alloc (.cells #[.int .i64 (xo : Int), .int .i64 (xs : Int), .bool true] 53) = wx := ⟨_, rfl⟩
                              obtain ⟨gx, hgx⟩ : ∃ gx, wg.heap.size = gx := ⟨_, rfl⟩
                              have hbx : Below wg.heap.size wg wx := by rw [← hwx]; exact (Below.refl _ _).alloc (Nat.le_refl _) _
                              have hnx : wx.heap[gx]? = some (.cells #[.int .i64 (xo : Int), .int .i64 (xs : Int), .bool true] 53 (0, 0)) := by rw [← hwx, ← hgx]; exact heap_alloc_new wg _
                              have kx := kg.below hbx
                              obtain ⟨wd, hwd⟩ : ∃ wd, wx.drew = wd := ⟨_, rfl⟩
                              have hbd : Below wx.heap.size wx wd := by rw [← hwd]; exact (Below.refl _ _).drew
                              have kd := kx.below hbd
                              have hnd : wd.heap[gx]? = some (.cells #[.int .i64 (xo : Int), .int .i64 (xs : Int), .bool true] 53 (0, 0)) := (hbd.block gx (heap_lt hnx)).trans hnx
                              obtain ⟨s0, s1, s2⟩ := kd.at_ HX.out
                              dsimp only at s0 s1 s2
                              have hb1l := kd.lt _ rfl
                              have hb6l := kd.le
                              have hb1d : b1 < wd.heap.size := by dsimp only at hb1l; omega
                              have KD := Lib.hid kd
                              have HND := Lib.hid hnd
                              have HWX := Lib.hid hwx
                              have HGX := Lib.hid hgx
                              have HWD := Lib.hid hwd
                              obtain ⟨cb, hcb⟩ : ∃ cb, (out.drop (xo + 8)).take (xs - 16) = cb := ⟨_, rfl⟩
                              have HLD := Lib.hid (kload kd HOL.out (xo + 8) (xs - 16) (by omega) cb hcb (x := (xo : Int) + 8) (m := (xs : Int) - 16) (by omega) (by omega))
                              have HCB := Lib.hid hcb
                              clear hb kg hwx hgx hbx hnx kx hwd hbd kd hnd hcb HGE KX hb1l
                              go_wp2_with (first | (rw [HWX.out, HGX.out]) | fail)
                              refine wp_region_tail wd.heap.size [([0, 1, 2, 3, 4, 5, 6, 7, 8, 9, 10, 11, 12, 13, 14], 15)] [16, 17, 18, 19, 20] [] (by kernel_rfl) (by kernel_rfl) (by kernel_rfl) (fun _ _ _ _ _ h => h) ?_
                              rw [HWD.out]
                              clear p0 p1 p2
                              have t0 : ∀ z : LaterB wd.heap.size wd, z.val.cell? ⟨b1, o1 + j * 3, none⟩ = some (.int .i64 (xo : Int)) := fun z => (z.ext.cell (p := ⟨b1, o1 + j * 3, none⟩) hb1d).trans s0
                              have t1 : ∀ z : LaterB wd.heap.size wd, z.val.cell? ⟨b1, o1 + j * 3 + 1, none⟩ = some (.int .i64 (xs : Int)) := fun z => (z.ext.cell (p := ⟨b1, o1 + j * 3 + 1, none⟩) hb1d).trans s1
                              refine tail_cons (l := ?segLb) ?hsegLb ?_
                              case hsegLb => simp only [pick, List.getElem?_toArray, List.getElem?_cons_succ, List.getElem?_cons_zero]; rfl
                              repeat (go_big_quiet_step (fail))
                              refine wpQuiet_nil ?_
                              clear t0 t1 s0 s1 s2
                              refine tail_call (vs := #[.pointer (some ⟨g, 0, none⟩), .int .u64 ((xo : Int) + 8), .int .u64 ((xs : Int) - 16)]) Tryz.call21 rfl rfl rfl (R := fun r w' => ∃ A' c', r = .tuple #[.slice A' (xs - 16) c', .nilIface] ∧ w'.ownsRow wd.heap.size 5 1 (.slice A' (xs - 16) c') (xs - 16) (cb.map bv) ∧ Below wd.heap.size wd w') (HLD.out.mono ?_) wd.heap.size (Nat.le_refl _) ?_
                              · rintro e w' ⟨A', c', rfl, ho, hb⟩
                                exact ⟨_, rfl, hb, A', c', rfl, ho, hb⟩
                              rintro r w14 _ ⟨A14, c14, rfl, ho, hb⟩
                              obtain ⟨b14, rfl⟩ := own_some ho (by omega)
                              have k14 := KD.out.below hb
                              have n14 := (hb.block gx (heap_lt HND.out)).trans HND.out
                              have HBY : Hid (∀ k, k < xs - 16 → w14.cell? ⟨b14, k, none⟩ = some (.int .u8 ((j : Int) % 256))) := fun k hk => by
                                have h1 := ho.cellAt k (by omega)
                                rw [List.getElem?_map, ← HCB.out, load_at hk, show xo + 8 + k = xo + (8 + k) by omega, HBT.out (8 + k) (by omega) (by omega)] at h1
                                have h2 : w14.cell? ⟨b14, k, none⟩ = some (.int .u8 ((markOf j).toNat : Int)) := h1
                                rw [h2, mark_val]
                              have hb14 : b14 < w14.heap.size := (ho.lt b14 rfl).2
                              obtain ⟨we, hwe⟩ : ∃ we, w14.drew = we := ⟨_, rfl⟩
                              have hbe : Below w14.heap.size w14 we := by rw [← hwe]; exact (Below.refl _ _).drew
                              have ke := k14.below hbe
                              obtain ⟨s0, s1, s2⟩ := ke.at_ HX.out
                              dsimp only at s0 s1 s2
                              obtain ⟨x0, x1, x2⟩ := (blk_cells ((hbe.block gx (heap_lt n14)).trans n14)).1
                              have hgxe : gx < we.heap.size := Nat.lt_of_lt_of_le (heap_lt n14) hbe.size
                              have hb1e : b1 < we.heap.size := Nat.lt_of_lt_of_le hb1d (Nat.le_trans hb.size hbe.size)
                              have HBYE : Hid (∀ k, k < xs - 16 → we.cell? ⟨b14, k, none⟩ = some (.int .u8 ((j : Int) % 256))) := fun k hk => (hbe.cell (p := ⟨b14, k, none⟩) hb14).trans (HBY.out k hk)
                              have KE := Lib.hid ke
                              have HWE := Lib.hid hwe
                              have hxs16 : ((xs - 16 : Nat) : Int) = (xs : Int) - 16 := by omega
                              clear ho hb k14 n14 hbe ke hwe HBY KD HLD HND HWX HWD HCB HBT
                              refine tail_last (l := ?laMb) (t := []) ?hlaMb rfl ?_
                              case hlaMb => simp only [pick, List.getElem?_toArray, List.getElem?_cons_succ, List.getElem?_cons_zero]; rfl
                              simp only [Act.put, List.setIfInBounds_toArray, List.set_cons_zero, List.set_cons_succ]
                              repeat (go_big_quiet_step (fail))
                              refine wpQuiet_nil ?_
                              go_wp2_with fail
                              refine wp_region_tail we.heap.size [] [0, 1, 2, 3, 4, 5, 6, 7, 8, 9, 10, 11, 12, 13] [] (by kernel_rfl) (by kernel_rfl) (by kernel_rfl) (fun _ _ _ _ _ h => h) ?_
                              rw [HWE.out]
                              have t0 : ∀ z : LaterB we.heap.size we, z.val.cell? ⟨b1, o1 + j * 3, none⟩ = some (.int .i64 (xo : Int)) := fun z => (z.ext.cell (p := ⟨b1, o1 + j * 3, none⟩) hb1e).trans s0
                              have t1 : ∀ z : LaterB we.heap.size we, z.val.cell? ⟨b1, o1 + j * 3 + 1, none⟩ = some (.int .i64 (xs : Int)) := fun z => (z.ext.cell (p := ⟨b1, o1 + j * 3 + 1, none⟩) hb1e).trans s1
                              have t2 : ∀ z : LaterB we.heap.size we, z.val.cell? ⟨b1, o1 + j * 3 + 2, none⟩ = some (.bool true) := fun z => (z.ext.cell (p := ⟨b1, o1 + j * 3 + 2, none⟩) hb1e).trans s2
                              have t3 : ∀ z : LaterB we.heap.size we, z.val.cell? ⟨gx, 0, none⟩ = some (.int .i64 (xo : Int)) := fun z => (z.ext.cell (p := ⟨gx, 0, none⟩) hgxe).trans x0
                              have t4 : ∀ z : LaterB we.heap.size we, z.val.cell? ⟨gx, 1, none⟩ = some (.int .i64 (xs : Int)) := fun z => (z.ext.cell (p := ⟨gx, 1, none⟩) hgxe).trans x1
                              have t5 : ∀ z : LaterB we.heap.size we, z.val.cell? ⟨gx, 2, none⟩ = some (.bool true) := fun z => (z.ext.cell (p := ⟨gx, 2, none⟩) hgxe).trans x2
                              refine tail_last (l := ?laNb) (t := []) ?hlaNb rfl ?_
                              case hlaNb => simp only [pick, List.getElem?_toArray, List.getElem?_cons_succ, List.getElem?_cons_zero]; rfl
                              repeat (go_big_quiet_step (fail))
                              refine wpQuiet_nil ?_
                              clear t0 t1 t2 t3 t4 t5 s0 s1 s2 x0 x1 x2
                              go_wp2
                              go_loopw [30] (fun i wr => ∃ k : Nat, i = .int .i64 (k : Int) ∧ k ≤ xs - 16 ∧ we = wr) (fun i _ => xs - (intOf i).toNat)
                              case atStart => exact ⟨0, rfl, Nat.zero_le _, rfl⟩
                              case round =>
                                obtain ⟨k, rfl, hk, rfl⟩ := hrel
                                by_cases hkl : k < xs - 16
                                · have hce := HBYE.out k hkl
                                  have hki : (k : Int) < (xs : Int) - 16 := by omega
                                  go_wp2
                                  go_roundw
                                  case rel => exact ⟨k + 1, by go_num, by omega, trivial⟩
                                  case measure => simp only [intOf]; omega
                                · have hki : (xs : Int) - 16 ≤ (k : Int) := by omega
                                  clear HBYE
                                  go_wp2
                                  go_roundw
                                  case rel => exact ⟨j + 1, by go_num, by omega, KE.out⟩
                                  case measure => simp only [intOf]; omega
                        · have HE := Lib.hid hk.st.bel
                          clear hk
                          go_wp2
                          go_ret
                          exact ⟨rfl, HE.out⟩
            · have h0 := hT.2 herr
              obtain ⟨rfl, hb⟩ := h0
              have k9 := K1.out.below hb
              have hol : bs1.length ≤ 16384 := by rw [HB1L.out]; exact HLEN.out
              obtain ⟨hyH, hyu, hyo, hhn⟩ := HY.out
              have hf3 : ∀ i x, L[i]? = some x → x.used = true → x.off ≠ o → getB bs1 (x.off : Int) = some x ∧ ∀ k, 8 ≤ k → k + 8 < x.size → bs1[x.off + k]? = some (markOf i) := fun i x hx hu hne => by
                have hxH : x ∈ H.blks := by rw [HLB.out]; exact List.mem_of_getElem? hx
                exact ⟨(walkB_tiles R1.out.walk).2.2 x hxH, HMF.out i x hx hu hne⟩
              have KN := Lib.hid k9
              have HOL := Lib.hid hol
              have HRO := Lib.hid R1.out
              have HF3 := Lib.hid hf3
              obtain ⟨bt, hbt⟩ : ∃ bt : Nat, (hn : Int) - 16 = (bt : Int) := ⟨hn - 16, by omega⟩
              have hf1 : o + 8 + bt ≤ bs1.length := by rw [HB1L.out]; omega
              have hf2 : ∀ k, k < bt → bs1[o + 8 + k]? = some (markOf (7 * k + 1)) := fun k hk => HMO.out k (by omega)
              have HF1 := Lib.hid hf1
              have HF2 := Lib.hid hf2
              have hbt16 : 16 ≤ bt := by omega
              have hbtl : bt ≤ 16384 := by omega
              obtain ⟨ek, hek⟩ : ∃ ek, (H.resize (o : Int) s).1.2 = ek := ⟨_, rfl⟩
              rw [hek]
              clear hT herr hb k9 hol hyH hyu hyo hhn hf3 hf1 hf2 K1 R1 HMO HMF HY hek
              dsimp only [errV]
              rcases hmin with hmin | hmin
              · as_aux_lemma =>
                  have hmin2 : (s : Int) < (hn : Int) := by omega
                  clear hmin
                  go_wp2_with fail
                  refine (HCk.out w9 g 0 cap c A bs1 true KN.out.st.ar (by omega) HOL.out HRO.out.chk).mono ?_
                  rintro e w12 ⟨rfl, hb⟩
                  have K12 := Lib.hid (KN.out.below hb)
                  clear hb
                  dsimp only [errV]
                  obtain ⟨bb, hbb⟩ : ∃ bb, (bs1.drop (o + 8)).take bt = bb := ⟨_, rfl⟩
                  go_wp2_with fail
                  refine (kload K12.out HOL.out (o + 8) bt HF1.out bb hbb (by omega) rfl).mono ?_
                  rintro e w13 ⟨A13, c13, rfl, ho, hb⟩
                  obtain ⟨b13, rfl⟩ := own_some ho (by omega)
                  have K13 := Lib.hid (K12.out.below hb)
                  have HBY : Hid (∀ k, k < bt → w13.cell? ⟨b13, k, none⟩ = some (.int .u8 ((7 * (k : Int) + 1) % 256))) := fun k hk => by
                    have h1 := ho.cellAt k (by omega)
                    rw [List.getElem?_map, ← hbb, load_at hk, HF2.out k hk] at h1
                    have h2 : w13.cell? ⟨b13, k, none⟩ = some (.int .u8 ((markOf (7 * k + 1)).toNat : Int)) := h1
                    rw [h2, mark_val]
                    congr 2
                  clear ho hb hbb K12
                  go_wp2
                  go_loopw [24] (fun i wr => ∃ k : Nat, i = .int .i64 (k : Int) ∧ k ≤ bt ∧ w13 = wr) (fun i _ => bt - (intOf i).toNat)
                  case atStart => exact ⟨0, rfl, Nat.zero_le _, rfl⟩
                  case round =>
                    obtain ⟨k, rfl, hk, rfl⟩ := hrel
                    by_cases hkl : k < bt
                    · have hce := HBY.out k hkl
                      have hki : (k : Int) < (bt : Int) := by omega
                      go_wp2
                      go_roundw
                      case rel => exact ⟨k + 1, by go_num, by omega, trivial⟩
                      case measure => simp only [intOf]; omega
                    · clear HBY
                      go_wp2
                      go_loopw [25] (fun i wr => ∃ j : Nat, i = .int .i64 (j : Int) ∧ j ≤ M ∧ Kp w wr g cap A c bs1 B6 (some ⟨b1, o1, none⟩) L) (fun i _ => M - (intOf i).toNat)
                      case atStart => exact ⟨0, rfl, Nat.zero_le _, K13.out⟩
                      case round =>
                        obtain ⟨j, rfl, hj, hk⟩ := hrel
                        clear K13
                        by_cases hlt : j < M
                        · obtain ⟨x, hx⟩ : ∃ x, L[j]? = some x := ⟨L[j]'(by rw [HM.out]; exact hlt), List.getElem?_eq_getElem _⟩
                          obtain ⟨p0, p1, p2⟩ := hk.at_ hx
                          have hxl := List.mem_of_getElem? hx
                          have hxm := (tile_mem _ _ _ HTI.out).2 x hxl
                          have hxs := (isSz_iff _).1 hxm.2.2.1
                          have hlen := HLEN.out
                          have hji : (j : Int) < (M : Int) := by omega
                          have hj512 : j < 1000 := by omega
                          have KX := Lib.hid hk
                          have HX := Lib.hid hx
                          have hf3 := HF3.out j x hx
                          obtain ⟨xo, xs, xu⟩ := x
                          dsimp only at p0 p1 p2 hxm hxs hf3
                          have z1 : xo ≤ 16384 := by omega
                          have z2 : xs ≤ 16384 := by omega
                          have z3 : 32 ≤ xs := by omega
                          clear hk hx hxl hxm hxs hlen
                          cases xu with
                          | false =>
                            clear hf3
                            go_wp2
                            go_roundw
                            case rel => exact ⟨j + 1, by go_num, by omega, KX.out⟩
                            case measure => simp only [intOf]; omega
                          | true =>
                            by_cases hxo : xo = o
                            · have g1 : ((xo : Int) == (o : Int)) = true := by rw [beq_iff_eq]; omega
                              have g1' : (xo == o) = true := by rw [beq_iff_eq]; exact hxo
                              clear hf3 hxo
                              go_wp2
                              go_roundw
                              case rel => exact ⟨j + 1, by go_num, by omega, KX.out⟩
                              case measure => simp only [intOf]; omega
                            · have g1 : ((xo : Int) == (o : Int)) = false := by rw [beq_eq_false_iff_ne]; omega
                              have g1' : (xo == o) = false := by rw [beq_eq_false_iff_ne]; exact hxo
                              obtain ⟨hget, hbyt⟩ := hf3 rfl hxo
                              have hgb := getB_some hget
                              have hxol : xo + xs ≤ bs1.length := by have := hgb.2.2.2.1; have := hgb.2.2.2.2; omega
                              have HGE := Lib.hid (HGt.out wr g 0 cap c A bs1 (xo : Int) _ KX.out.st.ar (by omega) HOL.out (by omega) hget)
                              have HBT := Lib.hid hbyt
                              clear hf3 hget hbyt hgb hxo
                              go_wp2_with fail
                              refine HGE.out.mono ?_
                              rintro e wg ⟨rfl, hb⟩
                              have kg := KX.out.below hb
                              dsimp only [errV, bkV, Bk.val, Option.isSome]
                              obtain ⟨wx, hwx⟩ : ∃ wx, wg.alloc (.cells #[.int .i64 (xo : Int), .int .i64 (xs : Int), .bool true] 53) = wx := ⟨_, rfl⟩
                              obtain ⟨gx, hgx⟩ : ∃ gx, wg.heap.size = gx := ⟨_, rfl⟩
                              have hbx : Below wg.heap.size wg wx := by rw [← hwx]; exact (Below.refl _ _).alloc (Nat.le_refl _) _
                              have hnx : wx.heap[gx]? = some (.cells #[.int .i64 (xo : Int), .int .i64 (xs : Int), .bool true] 53 (0, 0)) := by rw [← hwx, ← hgx]; exact heap_alloc_new wg _
                              have kx := kg.below hbx
                              obtain ⟨wd, hwd⟩ : ∃ wd, wx.drew = wd := ⟨_, rfl⟩
                              have hbd : Below wx.heap.size wx wd := by rw [← hwd]; exact (Below.refl _ _).drew
                              have kd := kx.below hbd
                              have hnd : wd.heap[gx]? = some (.cells #[.int .i64 (xo : Int), .int .i64 (xs : Int), .bool true] 53 (0, 0)) := (hbd.block gx (heap_lt hnx)).trans hnx
                              obtain ⟨s0, s1, s2⟩ := kd.at_ HX.out
                              dsimp only at s0 s1 s2
                              have hb1l := kd.lt _ rfl
                              have hb6l := kd.le
                              have hb1d : b1 < wd.heap.size := by dsimp only at hb1l; omega
                              have KD := Lib.hid kd
                              have HND := Lib.hid hnd
                              have HWX := Lib.hid hwx
                              have HGX := Lib.hid hgx
                              have HWD := Lib.hid hwd
                              obtain ⟨cb, hcb⟩ : ∃ cb, (bs1.drop (xo + 8)).take (xs - 16) = cb := ⟨_, rfl⟩
                              have HLD := Lib.hid (kload kd HOL.out (xo + 8) (xs - 16) (by omega) cb hcb (x := (xo : Int) + 8) (m := (xs : Int) - 16) (by omega) (by omega))
                              have HCB := Lib.hid hcb
                              clear hb kg hwx hgx hbx hnx kx hwd hbd kd hnd hcb HGE KX hb1l
                              go_wp2_with (first | (rw [HWX.out, HGX.out]) | fail)
                              refine wp_region_tail wd.heap.size [([0, 1, 2, 3, 4, 5, 6, 7, 8, 9, 10, 11, 12, 13, 14], 15)] [16, 17, 18, 19, 20] [] (by kernel_rfl) (by kernel_rfl) (by kernel_rfl) (fun _ _ _ _ _ h => h) ?_
                              rw [HWD.out]
                              clear p0 p1 p2
                              have t0 : ∀ z : LaterB wd.heap.size wd, z.val.cell? ⟨b1, o1 + j * 3, none⟩ = some (.int .i64 (xo : Int)) := fun z => (z.ext.cell (p := ⟨b1, o1 + j * 3, none⟩) hb1d).trans s0
                              have t1 : ∀ z : LaterB wd.heap.size wd, z.val.cell? ⟨b1, o1 + j * 3 + 1, none⟩ = some (.int .i64 (xs : Int)) := fun z => (z.ext.cell (p := ⟨b1, o1 + j * 3 + 1, none⟩) hb1d).trans s1
                              refine tail_cons (l := ?segLc) ?hsegLc ?_
                              case hsegLc => simp only [pick, List.getElem?_toArray, List.getElem?_cons_succ, List.getElem?_cons_zero]; rfl
                              repeat (go_big_quiet_step (fail))
                              refine wpQuiet_nil ?_
                              clear t0 t1 s0 s1 s2
                              refine tail_call (vs := #[.pointer (some ⟨g, 0, none⟩), .int .u64 ((xo : Int) + 8), .int .u64 ((xs : Int) - 16)]) Tryz.call21 rfl rfl rfl (R := fun r w' => ∃ A' c', r = .tuple #[.slice A' (xs - 16) c', .nilIface] ∧ w'.ownsRow wd.heap.size 5 1 (.slice A' (xs - 16) c') (xs - 16) (cb.map bv) ∧ Below wd.heap.size wd w') (HLD.out.mono ?_) wd.heap.size (Nat.le_refl _) ?_
                              · rintro e w' ⟨A', c', rfl, ho, hb⟩
                                exact ⟨_, rfl, hb, A', c', rfl, ho, hb⟩
                              rintro r w14 _ ⟨A14, c14, rfl, ho, hb⟩
                              obtain ⟨b14, rfl⟩ := own_some ho (by omega)
                              have k14 := KD.out.below hb
                              have n14 := (hb.block gx (heap_lt HND.out)).trans HND.out
                              have HBY : Hid (∀ k, k < xs - 16 → w14.cell? ⟨b14, k, none⟩ = some (.int .u8 ((j : Int) % 256))) := fun k hk => by
                                have h1 := ho.cellAt k (by omega)
                                rw [List.getElem?_map, ← HCB.out, load_at hk, show xo + 8 + k = xo + (8 + k) by omega, HBT.out (8 + k) (by omega) (by omega)] at h1
                                have h2 : w14.cell? ⟨b14, k, none⟩ = some (.int .u8 ((markOf j).toNat : Int)) := h1
                                rw [h2, mark_val]
                              have hb14 : b14 < w14.heap.size := (ho.lt b14 rfl).2
                              obtain ⟨we, hwe⟩ : ∃ we, w14.drew = we := ⟨_, rfl⟩
                              have hbe : Below w14.heap.size w14 we := by rw [← hwe]; exact (Below.refl _ _).drew
                              have ke := k14.below hbe
                              obtain ⟨s0, s1, s2⟩ := ke.at_ HX.out
                              dsimp only at s0 s1 s2
                              obtain ⟨x0, x1, x2⟩ := (blk_cells ((hbe.block gx (heap_lt n14)).trans n14)).1
                              have hgxe : gx < we.heap.size := Nat.lt_of_lt_of_le (heap_lt n14) hbe.size
                              have hb1e : b1 < we.heap.size := Nat.lt_of_lt_of_le hb1d (Nat.le_trans hb.size hbe.size)
                              have HBYE : Hid (∀ k, k < xs - 16 → we.cell? ⟨b14, k, none⟩ = some (.int .u8 ((j : Int) % 256))) := fun k hk => (hbe.cell (p := ⟨b14, k, none⟩) hb14).trans (HBY.out k hk)
                              have KE := Lib.hid ke
                              have HWE := Lib.hid hwe
                              have hxs16 : ((xs - 16 : Nat) : Int) = (xs : Int) - 16 := by omega
                              clear ho hb k14 n14 hbe ke hwe HBY KD HLD HND HWX HWD HCB HBT
                              refine tail_last (l := ?laMc) (t := []) ?hlaMc rfl ?_
                              case hlaMc => simp only [pick, List.getElem?_toArray, List.getElem?_cons_succ, List.getElem?_cons_zero]; rfl
                              simp only [Act.put, List.setIfInBounds_toArray, List.set_cons_zero, List.set_cons_succ]
                              repeat (go_big_quiet_step (fail))
                              refine wpQuiet_nil ?_
                              go_wp2_with fail
                              refine wp_region_tail we.heap.size [] [0, 1, 2, 3, 4, 5, 6, 7, 8, 9, 10, 11, 12, 13] [] (by kernel_rfl) (by kernel_rfl) (by kernel_rfl) (fun _ _ _ _ _ h => h) ?_
                              rw [HWE.out]
                              have t0 : ∀ z : LaterB we.heap.size we, z.val.cell? ⟨b1, o1 + j * 3, none⟩ = some (.int .i64 (xo : Int)) := fun z => (z.ext.cell (p := ⟨b1, o1 + j * 3, none⟩) hb1e).trans s0
                              have t1 : ∀ z : LaterB we.heap.size we, z.val.cell? ⟨b1, o1 + j * 3 + 1, none⟩ = some (.int .i64 (xs : Int)) := fun z => (z.ext.cell (p := ⟨b1, o1 + j * 3 + 1, none⟩) hb1e).trans s1
                              have t2 : ∀ z : LaterB we.heap.size we, z.val.cell? ⟨b1, o1 + j * 3 + 2, none⟩ = some (.bool true) := fun z => (z.ext.cell (p := ⟨b1, o1 + j * 3 + 2, none⟩) hb1e).trans s2
                              have t3 : ∀ z : LaterB we.heap.size we, z.val.cell? ⟨gx, 0, none⟩ = some (.int .i64 (xo : Int)) := fun z => (z.ext.cell (p := ⟨gx, 0, none⟩) hgxe).trans x0
                              have t4 : ∀ z : LaterB we.heap.size we, z.val.cell? ⟨gx, 1, none⟩ = some (.int .i64 (xs : Int)) := fun z => (z.ext.cell (p := ⟨gx, 1, none⟩) hgxe).trans x1
                              have t5 : ∀ z : LaterB we.heap.size we, z.val.cell? ⟨gx, 2, none⟩ = some (.bool true) := fun z => (z.ext.cell (p := ⟨gx, 2, none⟩) hgxe).trans x2
                              refine tail_last (l := ?laNc) (t := []) ?hlaNc rfl ?_
                              case hlaNc => simp only [pick, List.getElem?_toArray, List.getElem?_cons_succ, List.getElem?_cons_zero]; rfl
                              repeat (go_big_quiet_step (fail))
                              refine wpQuiet_nil ?_
                              clear t0 t1 t2 t3 t4 t5 s0 s1 s2 x0 x1 x2
                              go_wp2
                              go_loopw [30] (fun i wr => ∃ k : Nat, i = .int .i64 (k : Int) ∧ k ≤ xs - 16 ∧ we = wr) (fun i _ => xs - (intOf i).toNat)
                              case atStart => exact ⟨0, rfl, Nat.zero_le _, rfl⟩
                              case round =>
                                obtain ⟨k, rfl, hk, rfl⟩ := hrel
                                by_cases hkl : k < xs - 16
                                · have hce := HBYE.out k hkl
                                  have hki : (k : Int) < (xs : Int) - 16 := by omega
                                  go_wp2
                                  go_roundw
                                  case rel => exact ⟨k + 1, by go_num, by omega, trivial⟩
                                  case measure => simp only [intOf]; omega
                                · have hki : (xs : Int) - 16 ≤ (k : Int) := by omega
                                  clear HBYE
                                  go_wp2
                                  go_roundw
                                  case rel => exact ⟨j + 1, by go_num, by omega, KE.out⟩
                                  case measure => simp only [intOf]; omega
                        · have HE := Lib.hid hk.st.bel
                          clear hk
                          go_wp2
                          go_ret
                          exact ⟨rfl, HE.out⟩
              · as_aux_lemma =>
                  have hmin2 : (hn : Int) ≤ (s : Int) := by omega
                  clear hmin
                  go_wp2_with fail
                  refine (HCk.out w9 g 0 cap c A bs1 true KN.out.st.ar (by omega) HOL.out HRO.out.chk).mono ?_
                  rintro e w12 ⟨rfl, hb⟩
                  have K12 := Lib.hid (KN.out.below hb)
                  clear hb
                  dsimp only [errV]
                  obtain ⟨bb, hbb⟩ : ∃ bb, (bs1.drop (o + 8)).take bt = bb := ⟨_, rfl⟩
                  go_wp2_with fail
                  refine (kload K12.out HOL.out (o + 8) bt HF1.out bb hbb (by omega) rfl).mono ?_
                  rintro e w13 ⟨A13, c13, rfl, ho, hb⟩
                  obtain ⟨b13, rfl⟩ := own_some ho (by omega)
                  have K13 := Lib.hid (K12.out.below hb)
                  have HBY : Hid (∀ k, k < bt → w13.cell? ⟨b13, k, none⟩ = some (.int .u8 ((7 * (k : Int) + 1) % 256))) := fun k hk => by
                    have h1 := ho.cellAt k (by omega)
                    rw [List.getElem?_map, ← hbb, load_at hk, HF2.out k hk] at h1
                    have h2 : w13.cell? ⟨b13, k, none⟩ = some (.int .u8 ((markOf (7 * k + 1)).toNat : Int)) := h1
                    rw [h2, mark_val]
                    congr 2
                  clear ho hb hbb K12
                  go_wp2
                  go_loopw [24] (fun i wr => ∃ k : Nat, i = .int .i64 (k : Int) ∧ k ≤ bt ∧ w13 = wr) (fun i _ => bt - (intOf i).toNat)
                  case atStart => exact ⟨0, rfl, Nat.zero_le _, rfl⟩
                  case round =>
                    obtain ⟨k, rfl, hk, rfl⟩ := hrel
                    by_cases hkl : k < bt
                    · have hce := HBY.out k hkl
                      have hki : (k : Int) < (bt : Int) := by omega
                      go_wp2
                      go_roundw
                      case rel => exact ⟨k + 1, by go_num, by omega, trivial⟩
                      case measure => simp only [intOf]; omega
                    · clear HBY
                      go_wp2
                      go_loopw [25] (fun i wr => ∃ j : Nat, i = .int .i64 (j : Int) ∧ j ≤ M ∧ Kp w wr g cap A c bs1 B6 (some ⟨b1, o1, none⟩) L) (fun i _ => M - (intOf i).toNat)
                      case atStart => exact ⟨0, rfl, Nat.zero_le _, K13.out⟩
                      case round =>
                        obtain ⟨j, rfl, hj, hk⟩ := hrel
                        clear K13
                        by_cases hlt : j < M
                        · obtain ⟨x, hx⟩ : ∃ x, L[j]? = some x := ⟨L[j]'(by rw [HM.out]; exact hlt), List.getElem?_eq_getElem _⟩
                          obtain ⟨p0, p1, p2⟩ := hk.at_ hx
                          have hxl := List.mem_of_getElem? hx
                          have hxm := (tile_mem _ _ _ HTI.out).2 x hxl
                          have hxs := (isSz_iff _).1 hxm.2.2.1
                          have hlen := HLEN.out
                          have hji : (j : Int) < (M : Int) := by omega
                          have hj512 : j < 1000 := by omega
                          have KX := Lib.hid hk
                          have HX := Lib.hid hx
                          have hf3 := HF3.out j x hx
                          obtain ⟨xo, xs, xu⟩ := x
                          dsimp only at p0 p1 p2 hxm hxs hf3
                          have z1 : xo ≤ 16384 := by omega
                          have z2 : xs ≤ 16384 := by omega
                          have z3 : 32 ≤ xs := by omega
                          clear hk hx hxl hxm hxs hlen
                          cases xu with
                          | false =>
                            clear hf3
                            go_wp2
                            go_roundw
                            case rel => exact ⟨j + 1, by go_num, by omega, KX.out⟩
                            case measure => simp only [intOf]; omega
                          | true =>
                            by_cases hxo : xo = o
                            · have g1 : ((xo : Int) == (o : Int)) = true := by rw [beq_iff_eq]; omega
                              have g1' : (xo == o) = true := by rw [beq_iff_eq]; exact hxo
                              clear hf3 hxo
                              go_wp2
                              go_roundw
                              case rel => exact ⟨j + 1, by go_num, by omega, KX.out⟩
                              case measure => simp only [intOf]; omega
                            · have g1 : ((xo : Int) == (o : Int)) = false := by rw [beq_eq_false_iff_ne]; omega
                              have g1' : (xo == o) = false := by rw [beq_eq_false_iff_ne]; exact hxo
                              obtain ⟨hget, hbyt⟩ := hf3 rfl hxo
                              have hgb := getB_some hget
                              have hxol : xo + xs ≤ bs1.length := by have := hgb.2.2.2.1; have := hgb.2.2.2.2; omega
                              have HGE := Lib.hid (HGt.out wr g 0 cap c A bs1 (xo : Int) _ KX.out.st.ar (by omega) HOL.out (by omega) hget)
                              have HBT := Lib.hid hbyt
                              clear hf3 hget hbyt hgb hxo
                              go_wp2_with fail
                              refine HGE.out.mono ?_
                              rintro e wg ⟨rfl, hb⟩
                              have kg := KX.out.below hb
                              dsimp only [errV, bkV, Bk.val, Option.isSome]
                              obtain ⟨wx, hwx⟩ : ∃ wx, wg.alloc (.cells #[.int .i64 (xo : Int), .int .i64 (xs : Int), .bool true] 53) = wx := ⟨_, rfl⟩
                              obtain ⟨gx, hgx⟩ : ∃ gx, wg.heap.size = gx := ⟨_, rfl⟩
                              have hbx : Below wg.heap.size wg wx := by rw [← hwx]; exact (Below.refl _ _).alloc (Nat.le_refl _) _
                              have hnx : wx.heap[gx]? = some (.cells #[.int .i64 (xo : Int), .int .i64 (xs : Int), .bool true] 53 (0, 0)) := by rw [← hwx, ← hgx]; exact heap_alloc_new wg _
                              have kx := kg.below hbx
                              obtain ⟨wd, hwd⟩ : ∃ wd, wx.drew = wd := ⟨_, rfl⟩
                              have hbd : Below wx.heap.size wx wd := by rw [← hwd]; exact (Below.refl _ _).drew
                              have kd := kx.below hbd
                              have hnd : wd.heap[gx]? = some (.cells #[.int .i64 (xo : Int), .int .i64 (xs : Int), .bool true] 53 (0, 0)) := (hbd.block gx (heap_lt hnx)).trans hnx
                              obtain ⟨s0, s1, s2⟩ := kd.at_ HX.out
                              dsimp only at s0 s1 s2
                              have hb1l := kd.lt _ rfl
                              have hb6l := kd.le
                              have hb1d : b1 < wd.heap.size := by dsimp only at hb1l; omega
                              have KD := Lib.hid kd
                              have HND := Lib.hid hnd
                              have HWX := Lib.hid hwx
                              have HGX := Lib.hid hgx
                              have HWD := Lib.hid hwd
                              obtain ⟨cb, hcb⟩ : ∃ cb, (bs1.drop (xo + 8)).take (xs - 16) = cb := ⟨_, rfl⟩
                              have HLD := Lib.hid (kload kd HOL.out (xo + 8) (xs - 16) (by omega) cb hcb (x := (xo : Int) + 8) (m := (xs : Int) - 16) (by omega) (by omega))
                              have HCB := Lib.hid hcb
                              clear hb kg hwx hgx hbx hnx kx hwd hbd kd hnd hcb HGE KX hb1l
                              go_wp2_with (first | (rw [HWX.out, HGX.out]) | fail)
                              refine wp_region_tail wd.heap.size [([0, 1, 2, 3, 4, 5, 6, 7, 8, 9, 10, 11, 12, 13, 14], 15)] [16, 17, 18, 19, 20] [] (by kernel_rfl) (by kernel_rfl) (by kernel_rfl) (fun _ _ _ _ _ h => h) ?_
                              rw [HWD.out]
                              clear p0 p1 p2
                              have t0 : ∀ z : LaterB wd.heap.size wd, z.val.cell? ⟨b1, o1 + j * 3, none⟩ = some (.int .i64 (xo : Int)) := fun z => (z.ext.cell (p := ⟨b1, o1 + j * 3, none⟩) hb1d).trans s0
                              have t1 : ∀ z : LaterB wd.heap.size wd, z.val.cell? ⟨b1, o1 + j * 3 + 1, none⟩ = some (.int .i64 (xs : Int)) := fun z => (z.ext.cell (p := ⟨b1, o1 + j * 3 + 1, none⟩) hb1d).trans s1
                              refine tail_cons (l := ?segLd) ?hsegLd ?_
                              case hsegLd => simp only [pick, List.getElem?_toArray, List.getElem?_cons_succ, List.getElem?_cons_zero]; rfl
                              repeat (go_big_quiet_step (fail))
                              refine wpQuiet_nil ?_
                              clear t0 t1 s0 s1 s2
                              refine tail_call (vs := #[.pointer (some ⟨g, 0, none⟩), .int .u64 ((xo : Int) + 8), .int .u64 ((xs : Int) - 16)]) Tryz.call21 rfl rfl rfl (R := fun r w' => ∃ A' c', r = .tuple #[.slice A' (xs - 16) c', .nilIface] ∧ w'.ownsRow wd.heap.size 5 1 (.slice A' (xs - 16) c') (xs - 16) (cb.map bv) ∧ Below wd.heap.size wd w') (HLD.out.mono ?_) wd.heap.size (Nat.le_refl _) ?_
                              · rintro e w' ⟨A', c', rfl, ho, hb⟩
                                exact ⟨_, rfl, hb, A', c', rfl, ho, hb⟩
                              rintro r w14 _ ⟨A14, c14, rfl, ho, hb⟩
                              obtain ⟨b14, rfl⟩ := own_some ho (by omega)
                              have k14 := KD.out.below hb
                              have n14 := (hb.block gx (heap_lt HND.out)).trans HND.out
                              have HBY : Hid (∀ k, k < xs - 16 → w14.cell? ⟨b14, k, none⟩ = some (.int .u8 ((j : Int) % 256))) := fun k hk => by
                                have h1 := ho.cellAt k (by omega)
                                rw [List.getElem?_map, ← HCB.out, load_at hk, show xo + 8 + k = xo + (8 + k) by omega, HBT.out (8 + k) (by omega) (by omega)] at h1
                                have h2 : w14.cell? ⟨b14, k, none⟩ = some (.int .u8 ((markOf j).toNat : Int)) := h1
                                rw [h2, mark_val]
                              have hb14 : b14 < w14.heap.size := (ho.lt b14 rfl).2
                              obtain ⟨we, hwe⟩ : ∃ we, w14.drew = we := ⟨_, rfl⟩
                              have hbe : Below w14.heap.size w14 we := by rw [← hwe]; exact (Below.refl _ _).drew
                              have ke := k14.below hbe
                              obtain ⟨s0, s1, s2⟩ := ke.at_ HX.out
                              dsimp only at s0 s1 s2
                              obtain ⟨x0, x1, x2⟩ := (blk_cells ((hbe.block gx (heap_lt n14)).trans n14)).1
                              have hgxe : gx < we.heap.size := Nat.lt_of_lt_of_le (heap_lt n14) hbe.size
                              have hb1e : b1 < we.heap.size := Nat.lt_of_lt_of_le hb1d (Nat.le_trans hb.size hbe.size)
                              have HBYE : Hid (∀ k, k < xs - 16 → we.cell? ⟨b14, k, none⟩ = some (.int .u8 ((j : Int) % 256))) := fun k hk => (hbe.cell (p := ⟨b14, k, none⟩) hb14).trans (HBY.out k hk)
                              have KE := Lib.hid ke
                              have HWE := Lib.hid hwe
                              have hxs16 : ((xs - 16 : Nat) : Int) = (xs : Int) - 16 := by omega
                              clear ho hb k14 n14 hbe ke hwe HBY KD HLD HND HWX HWD HCB HBT
                              refine tail_last (l := ?laMd) (t := []) ?hlaMd rfl ?_
                              case hlaMd => simp only [pick, List.getElem?_toArray, List.getElem?_cons_succ, List.getElem?_cons_zero]; rfl
                              simp only [Act.put, List.setIfInBounds_toArray, List.set_cons_zero, List.set_cons_succ]
                              repeat (go_big_quiet_step (fail))
                              refine wpQuiet_nil ?_
                              go_wp2_with fail
                              refine wp_region_tail we.heap.size [] [0, 1, 2, 3, 4, 5, 6, 7, 8, 9, 10, 11, 12, 13] [] (by kernel_rfl) (by kernel_rfl) (by kernel_rfl) (fun _ _ _ _ _ h => h) ?_
                              rw [HWE.out]
                              have t0 : ∀ z : LaterB we.heap.size we, z.val.cell? ⟨b1, o1 + j * 3, none⟩ = some (.int .i64 (xo : Int)) := fun z => (z.ext.cell (p := ⟨b1, o1 + j * 3, none⟩) hb1e).trans s0
                              have t1 : ∀ z : LaterB we.heap.size we, z.val.cell? ⟨b1, o1 + j * 3 + 1, none⟩ = some (.int .i64 (xs : Int)) := fun z => (z.ext.cell (p := ⟨b1, o1 + j * 3 + 1, none⟩) hb1e).trans s1
                              have t2 : ∀ z : LaterB we.heap.size we, z.val.cell? ⟨b1, o1 + j * 3 + 2, none⟩ = some (.bool true) := fun z => (z.ext.cell (p := ⟨b1, o1 + j * 3 + 2, none⟩) hb1e).trans s2
                              have t3 : ∀ z : LaterB we.heap.size we, z.val.cell? ⟨gx, 0, none⟩ = some (.int .i64 (xo : Int)) := fun z => (z.ext.cell (p := ⟨gx, 0, none⟩) hgxe).trans x0
                              have t4 : ∀ z : LaterB we.heap.size we, z.val.cell? ⟨gx, 1, none⟩ = some (.int .i64 (xs : Int)) := fun z => (z.ext.cell (p := ⟨gx, 1, none⟩) hgxe).trans x1
                              have t5 : ∀ z : LaterB we.heap.size we, z.val.cell? ⟨gx, 2, none⟩ = some (.bool true) := fun z => (z.ext.cell (p := ⟨gx, 2, none⟩) hgxe).trans x2
                              refine tail_last (l := ?laNd) (t := []) ?hlaNd rfl ?_
                              case hlaNd => simp only [pick, List.getElem?_toArray, List.getElem?_cons_succ, List.getElem?_cons_zero]; rfl
                              repeat (go_big_quiet_step (fail))
                              refine wpQuiet_nil ?_
                              clear t0 t1 t2 t3 t4 t5 s0 s1 s2 x0 x1 x2
                              go_wp2
                              go_loopw [30] (fun i wr => ∃ k : Nat, i = .int .i64 (k : Int) ∧ k ≤ xs - 16 ∧ we = wr) (fun i _ => xs - (intOf i).toNat)
                              case atStart => exact ⟨0, rfl, Nat.zero_le _, rfl⟩
                              case round =>
                                obtain ⟨k, rfl, hk, rfl⟩ := hrel
                                by_cases hkl : k < xs - 16
                                · have hce := HBYE.out k hkl
                                  have hki : (k : Int) < (xs : Int) - 16 := by omega
                                  go_wp2
                                  go_roundw
                                  case rel => exact ⟨k + 1, by go_num, by omega, trivial⟩
                                  case measure => simp only [intOf]; omega
                                · have hki : (xs : Int) - 16 ≤ (k : Int) := by omega
                                  clear HBYE
                                  go_wp2
                                  go_roundw
                                  case rel => exact ⟨j + 1, by go_num, by omega, KE.out⟩
                                  case measure => simp only [intOf]; omega
                        · have HE := Lib.hid hk.st.bel
                          clear hk
                          go_wp2
                          go_ret
                          exact ⟨rfl, HE.out⟩
theorem rkp_any (HT : TakeK) (HG : GiveK) (HR : TrimK) (HU : UsedK) (HZ : ResizeK) (HWk : WalkC) (HGt : GetC) (HCk : CheckC) (w : World) (cap : Int) (hc : -9223372036854775808 ≤ cap ∧ cap ≤ 9223372036854775807) (A1 : Option Addr) (k1 : Nat) (l : List De) (hL : DeRd w w.heap.size A1 l) (nk nn : Int) :
    Calls Tryz.prog 4 #[.int .i64 cap, .slice A1 l.length k1, .int .i64 nk, .int .i64 nn] w fun e w' => e = .returned (.bool true) ∧ Below w.heap.size w w' := by
  by_cases hbad : cap < 1024 ∨ 16384 < cap
  · exact rkp_no HT HZ w cap hc hbad A1 _ k1 nk nn
  · obtain ⟨k, rfl⟩ : ∃ k : Nat, cap = (k : Int) := ⟨cap.toNat, by omega⟩
    rcases Nat.lt_or_ge 100 l.length with hl | hl
    · exact rkp_long HT HZ w k (by omega) (by omega) A1 _ k1 hl nk nn
    · exact rkp_main HT HG HR HU HZ HWk HGt HCk w k (by omega) (by omega) A1 k1 l hL hl nk nn
end
end Go.Proofs.YtdjjbmefaggelaaGreat
