/- The walk of the law ExtentTells: it returns true and writes nothing that was there. -/
import Derived.Test.YtkddcfaomaphaaaExt7
import Derived.Test.YtkddcfaomaphaaaTailS
import Derived.Test.YtkddcfaomaphaaaOpen
namespace Go.Proofs.Ytkddcfaomaphaaa
open Go.RowKit

/-- An error, and the number that Code tells of it. -/
def CodeIs (E : Value) (x : Int) : Prop := ∀ W : World, Calls Try.prog 10 #[E] W fun e w' => e = .returned (.int .i64 x) ∧ W = w'
theorem codeis_nil : CodeIs .nilIface 0 := code_nil
theorem codeis_err (k : Nat) (h1 : 1 ≤ k) (h2 : k ≤ 10) : CodeIs (.iface 54 (.int .i64 (k : Int))) (k : Int) := fun W => code_err W k h1 h2

section
variable {Sd Sr : Nat → Prop} {B : Nat} {w : World} {g h c : Nat} {W : Option Addr} {cw gr : Nat} {L : Option Addr} {cl : Nat} {V : Option Addr} {cv : Nat} {bs : List UInt8} {ls ws vs : List Wr} {left : Int} {off : Bool} {n : Nat}
theorem both_write (t : Two Sd Sr B w g h c W cw gr L cl V cv bs ls ws vs left off n) (hn : n ≤ 50000) (p : Int) (A : Option Addr) (cA : Nat) (b : List UInt8) (hr : Rd w B A b.length b) (hbc : b.length ≤ cA) (hcm : cA ≤ 9223372036854775807) (hA0 : A = none → cA = 0) :
    Calls Try.prog 11 #[.pointer (some ⟨g, 0, none⟩), .int .i64 p, .slice A b.length cA] w fun e w1 => ∃ E x, e = .returned E ∧ CodeIs E x ∧ Calls Try.prog 12 #[.pointer (some ⟨gr, 0, none⟩), .int .i64 p, .slice A b.length cA] w1 fun e w2 => e = .returned (.int .i64 x) ∧ TwoE B w2 g gr (n + 128) ls.length ∧ Below B w w2 := by
  have hlen := t.len
  have hll := t.hl
  have hws := t.hn
  have hB := t.hB
  by_cases hfit : p < 0 ∨ (ls.length : Int) < p + need b.length
  · refine (ewrite_arg t.d ls.length hlen hll p A b.length cA (by omega) hfit).mono ?_
    rintro e w1 ⟨rfl, rfl⟩
    refine ⟨_, 1, rfl, codeis_err 1 (by omega) (by omega), (rout_arg t.r ls.length rfl hll p A b.length cA (by omega) hfit).mono ?_⟩
    rintro e w2 ⟨rfl, hb⟩
    exact ⟨rfl, t.stay hb (by omega)⟩
  · obtain ⟨p, rfl⟩ : ∃ q : Nat, p = (q : Int) := ⟨p.toNat, by omega⟩
    obtain ⟨K, hK⟩ : ∃ K, need b.length = K := ⟨_, rfl⟩
    obtain ⟨m, hm⟩ : ∃ m, wk K left off = m := ⟨_, rfl⟩
    rw [hK] at hfit
    have hl1 := t.l1
    have hl2 := t.l2
    have hmK : m ≤ K := by rw [← hm]; unfold wk; split; omega; split; omega; omega
    have hml : -1 ≤ wleft left m ∧ wleft left m ≤ 9223372036854775807 := by
      unfold wleft
      by_cases h0 : left < 0
      · simp only [h0, if_true]; omega
      · simp only [h0, if_false]
        have : (m : Int) ≤ left := by
          rw [← hm]; unfold wk
          cases off <;> simp [h0] <;> omega
        omega
    refine (ewrite_fit t.d ls.length hlen hll (by omega) hl2 p A cA b (hr.more hB) hbc hcm (fun h0 a e hs => ?_) K hK (by omega) m hm).mono ?_
    · obtain ⟨b', o', e', hlt, _⟩ := hr.2 h0
      rw [e] at e'
      injection e' with e'
      subst e'
      have := (t.sd _ hs).1
      dsimp only at this; omega
    · rintro e w1 ⟨rfl, ⟨W', cw', ws', k1, hws'⟩, t1⟩
      have hb1 : Below B w w1 := t1.below (fun j hj => (t.sd j hj).1) hB
      refine ⟨_, if m < K then 6 else 0, rfl, ?_, ?_⟩
      · by_cases h : m < K
        · rw [if_pos h, if_pos h]; exact codeis_err 6 (by omega) (by omega)
        · rw [if_neg h, if_neg h]; exact codeis_nil
      · refine (rout_fit (t.mid t1) (fun j hj => Nat.lt_of_lt_of_le (t.sr j hj).2 t1.size) ls.length rfl hll (by have := t.same; omega) hl2 p A cA b ((hr.below hb1).more (Nat.le_trans hB t1.size)) hA0 K hK (by omega) m hm).mono ?_
        rintro e w2 ⟨rfl, ⟨V', cv', vs', k2, hvs'⟩, t2⟩
        have hwl : ws'.length = ws.length + m := by have := congrArg List.length hws'; simpa [puts_length] using this
        exact ⟨rfl, t.step t1 k1 t2 k2 t.hj (by rw [hvs', hws', t.hw]) hml.1 hml.2 (by omega) rfl⟩

theorem both_read (t : Two Sd Sr B w g h c W cw gr L cl V cv bs ls ws vs left off n) (p q : Int) (hq : q ≤ 9223372036854775807) :
    Calls Try.prog 13 #[.pointer (some ⟨g, 0, none⟩), .int .i64 p, .int .i64 q] w fun e w1 => ∃ A1 c1 o E x, e = .returned (.tuple #[.slice A1 (List.length o) c1, E]) ∧ CodeIs E x ∧ Rd w1 w1.heap.size A1 o.length o ∧ Below w.heap.size w w1 ∧
      Calls Try.prog 14 #[.pointer (some ⟨gr, 0, none⟩), .int .i64 p, .int .i64 q] w1 fun e w2 => ∃ A2 c2, e = .returned (.tuple #[.slice A2 o.length c2, .int .i64 x]) ∧ Rd w2 w2.heap.size A2 o.length o ∧ Below w1.heap.size w1 w2 := by
  have hlen := t.len
  have hll := t.hl
  by_cases hfit : q < 0 ∨ p < 0 ∨ (ls.length : Int) < p + need q.toNat
  · refine (eread_arg t.d ls.length hlen hll p q hq hfit).mono ?_
    rintro e w1 ⟨rfl, rfl⟩
    refine ⟨none, 0, [], _, 1, rfl, codeis_err 1 (by omega) (by omega), Rd.nil_, Below.refl _ _, (rin_arg t.r hll p q hq hfit).mono ?_⟩
    rintro e w2 ⟨rfl, hb⟩
    exact ⟨none, 0, rfl, Rd.nil_, hb⟩
  · obtain ⟨p, rfl⟩ : ∃ q : Nat, p = (q : Int) := ⟨p.toNat, by omega⟩
    obtain ⟨q, rfl⟩ : ∃ r : Nat, q = (r : Int) := ⟨q.toNat, by omega⟩
    rw [Int.toNat_natCast] at hfit
    by_cases hoff : off = true ∧ 0 < q
    · obtain ⟨rfl, hq0⟩ := hoff
      refine (eread_off t.d ls.length hlen hll p q hq0 (by omega)).mono ?_
      rintro e w1 ⟨rfl, hb⟩
      refine ⟨none, 0, [], _, 6, rfl, codeis_err 6 (by omega) (by omega), Rd.nil_, hb, (rin_off (t.r.below hb) hll p q hq0 (by omega)).mono ?_⟩
      rintro e w2 ⟨rfl, hb2⟩
      exact ⟨none, 0, rfl, Rd.nil_, hb2⟩
    · have ho : off = true → q = 0 := fun e => by
        rcases Nat.eq_zero_or_pos q with h | h
        · exact h
        · exact absurd ⟨e, h⟩ hoff
      obtain ⟨K, hK⟩ : ∃ K, need q = K := ⟨_, rfl⟩
      rw [hK] at hfit
      obtain ⟨out, hout⟩ : ∃ out, (rdAll bs (ws.map Wr.two) p K).take q = out := ⟨_, rfl⟩
      have hol : out.length = q := by
        rw [← hout, List.length_take, rdAll_length _ _ _ t.d.fits _ (by omega)]
        unfold need at hK; omega
      refine (eread_fit t.d ls.length hlen hll p q K hK (by omega) ho out hout).mono ?_
      rintro e w1 ⟨A1, c1, rfl, o1, hb⟩
      refine ⟨A1, c1, out, _, 0, rfl, codeis_nil, (Rd.own' o1).1, hb, (rin_fit (t.r.below hb) t.all5 hll p q K hK (by omega) ho out (by rw [t.hj, t.hw]; exact hout) hol).mono ?_⟩
      rintro e w2 ⟨A2, c2, rfl, o2, hb2⟩
      exact ⟨A2, c2, rfl, (Rd.own' o2).1, hb2⟩
end

set_option maxRecDepth 100000 in
set_option maxHeartbeats 400000 in
theorem et_none (w : World) (s p : Int) (A : Option Addr) (n cA : Nat) (cut fr q : Int) (Kp_ : Option Addr) (kn kc : Nat) (hs : s < 2 ∨ 128 < s) (_hsb : -9223372036854775808 ≤ s ∧ s ≤ 9223372036854775807) (t0 : Bool) (f0 : decide (s < 2) = t0) (t1 : Bool) (f1 : decide (128 < s) = t1) (hf : t0 = true ∨ (t0 = false ∧ t1 = true)) :
    Calls Try.prog 3 #[.int .i64 s, .int .i64 p, .slice A n cA, .int .i64 cut, .int .i64 fr, .int .i64 q, .slice Kp_ kn kc] w fun e w' => e = .returned (.bool true) ∧ Below w.heap.size w w' := by
  have HNW := Lib.hid (fun W => dnew_no W s hs)
  clear hs
  rcases hf with rfl | ⟨rfl, rfl⟩
  · go_enter Try.func3, Try.ntmps3
    go_wp2_with fail
    refine (up5_any w).mono ?_
    rintro e w1 ⟨rfl, hb1⟩
    go_wp2_with fail
    with_reducible refine (HNW.out w1).mono ?_
    rintro e w2 ⟨rfl, rfl⟩
    go_wp2
    go_ret
    exact ⟨rfl, hb1⟩
  · go_enter Try.func3, Try.ntmps3
    go_wp2_with fail
    refine (up5_any w).mono ?_
    rintro e w1 ⟨rfl, hb1⟩
    go_wp2_with fail
    with_reducible refine (HNW.out w1).mono ?_
    rintro e w2 ⟨rfl, rfl⟩
    go_wp2
    go_ret
    exact ⟨rfl, hb1⟩

set_option maxRecDepth 100000 in
set_option maxHeartbeats 400000 in
theorem et_long (w : World) (N : Nat) (hN1 : 2 ≤ N) (hN2 : N ≤ 128) (p : Int) (A : Option Addr) (n cA : Nat) (cut fr q : Int) (Kp_ : Option Addr) (kn kc : Nat) (hn : 70000 < n) (_hn2 : n ≤ 9223372036854775807) :
    Calls Try.prog 3 #[.int .i64 (N : Int), .int .i64 p, .slice A n cA, .int .i64 cut, .int .i64 fr, .int .i64 q, .slice Kp_ kn kc] w fun e w' => e = .returned (.bool true) ∧ Below w.heap.size w w' := by
  have f0 : decide ((N : Int) < 2) = false := decide_eq_false (by omega)
  have f1 : decide ((128 : Int) < (N : Int)) = false := decide_eq_false (by omega)
  have s1 : decide ((70000 : Int) < (n : Int)) = true := decide_eq_true (by omega)
  have HNW := Lib.hid (fun W => dnew_yes W N hN1 hN2)
  go_enter Try.func3, Try.ntmps3
  go_wp2_with fail
  refine (up5_any w).mono ?_
  rintro e w1 ⟨rfl, hb1⟩
  go_wp2_with fail
  with_reducible refine (HNW.out w1).mono ?_
  rintro e w2 ⟨rfl, _, hb2⟩
  have HB2 := Lib.hid (hb1.trans (hb2.mono hb1.size))
  clear hb1 hb2 HNW
  go_wp2
  go_ret
  exact ⟨rfl, HB2.out⟩

set_option maxRecDepth 100000 in
set_option maxHeartbeats 4000000 in
theorem et_main (w : World) (N : Nat) (hN1 : 2 ≤ N) (hN2 : N ≤ 128) (p : Int) (A : Option Addr) (cA : Nat) (b : List UInt8) (hr : Rd w w.heap.size A b.length b) (hbc : b.length ≤ cA) (hcm : cA ≤ 9223372036854775807) (hA0 : A = none → cA = 0) (hbl : b.length ≤ 70000) (cut fr q : Int) (hcut : cut ≤ 9223372036854775807) (hq : q ≤ 9223372036854775807) (Kp_ : Option Addr) (kc : Nat) (kb : List Bool) (hkb : Boo w Kp_ kb) (hkm : kb.length ≤ 9223372036854775807) :
    Calls Try.prog 3 #[.int .i64 (N : Int), .int .i64 p, .slice A b.length cA, .int .i64 cut, .int .i64 fr, .int .i64 q, .slice Kp_ kb.length kc] w fun e w' => e = .returned (.bool true) ∧ Below w.heap.size w w' := by
  have f0 : decide ((N : Int) < 2) = false := decide_eq_false (by omega)
  have f1 : decide ((128 : Int) < (N : Int)) = false := decide_eq_false (by omega)
  have s1 : decide ((70000 : Int) < (b.length : Int)) = false := decide_eq_false (by omega)
  obtain ⟨z, hz⟩ : ∃ z, List.replicate (N * 512) (0 : UInt8) = z := ⟨_, rfl⟩
  have hz' : List.replicate (512 * N) (0 : UInt8) = z := by rw [Nat.mul_comm]; exact hz
  have hzl : z.length = 512 * N := by rw [← hz', List.length_replicate]
  have m2 := run_zeros (512 * N) (by omega) z hz'
  have e2 : ((512 * N : Nat) : Int) = 512 * (N : Int) := by omega
  rw [e2] at m2
  have HNW := Lib.hid (fun W => dnew_yes W N hN1 hN2)
  rw [hz] at HNW
  have HR := Lib.hid hr
  have HKB := Lib.hid hkb
  have HZL := Lib.hid hzl
  clear hr hkb hz hz' hzl e2
  go_enter Try.func3, Try.ntmps3
  go_wp2_with fail
  refine (up5_any w).mono ?_
  rintro e w1 ⟨rfl, hb1⟩
  go_wp2_with fail
  with_reducible refine (HNW.out w1).mono ?_
  rintro e w2 ⟨rfl, k2, hb2⟩
  obtain ⟨g, hg⟩ : ∃ g, w1.heap.size + 1 = g := ⟨_, rfl⟩
  rw [hg] at k2 ⊢
  obtain ⟨w3, hw3⟩ : ∃ w3, w2.alloc (.cells (rowB z) 5) = w3 := ⟨_, rfl⟩
  have hb3 : Below w2.heap.size w2 w3 := by rw [← hw3]; exact (Below.refl _ _).alloc (Nat.le_refl _) _
  have hf3 : Fill w3 w2.heap.size 5 z := by rw [← hw3]; exact Fill.made w2 _ _
  have hs1 := hb1.size
  have hs2 := hb2.size
  have hs3 := hb3.size
  have HNR := rnew_any w3 w2.heap.size 0 (512 * N) z N HZL.out (by omega) hf3.reads (by rw [HZL.out]; exact Nat.le_refl _) (by omega)
  rw [HZL.out] at HNR
  have HNR := Lib.hid HNR
  have HW3 := Lib.hid hw3
  have HB3 := Lib.hid ((hb1.trans (hb2.mono hs1)).trans (hb3.mono (Nat.le_trans hs1 hs2)))
  have K3 := Lib.hid (k2.below hb3)
  have HS1 := Lib.hid hs1
  have HS2 := Lib.hid hs2
  have HS3 := Lib.hid hs3
  clear HNW hg k2 hb1 hb2 hb3 hf3 hs1 hs2 hs3 hw3
  go_wp2_with fail
  rw [HW3.out]
  with_reducible refine HNR.out.mono ?_
  rintro e w4 ⟨rfl, ⟨Lr, clr, ls, k4, hj⟩, b4⟩
  clear m2
  have hls : ls.length = N := by
    have h1 := joinD_length ls (fun x hx => (k4.lf x hx).1)
    rw [hj] at h1
    have := HZL.out
    omega
  obtain ⟨gr, hgr⟩ : ∃ gr, w3.heap.size = gr := ⟨_, rfl⟩
  have hsz := b4.size
  have hs1 := HS1.out
  have hs2 := HS2.out
  have hs3 := HS3.out
  have t4 : Two (grow (fun _ => False) w1 w2) (grow (fun _ => False) w3 w4) w.heap.size w4 g w1.heap.size (N * 512) none 0 w3.heap.size Lr clr none 0 z ls [] [] (-1) false 0 :=
    ⟨K3.out.below b4, k4, fun j hj => by
      rcases hj with hj | hj
      · cases hj
      · refine ⟨by omega, by omega, fun hr => ?_⟩
        rcases hr with hr | hr
        · cases hr
        · omega, fun j hj => by
      rcases hj with hj | hj
      · cases hj
      · omega, hj, rfl, by omega, by omega, Nat.le_refl _, by omega, by omega⟩
  rw [hgr] at t4 ⊢
  have HB4 : Hid (Below w.heap.size w w4) := HB3.out.trans (b4.mono (by omega))
  obtain ⟨m, hm⟩ : ∃ m : Int, (if cut < 0 then -1 else cut) = m := ⟨_, rfl⟩
  have hm1 : -1 ≤ m ∧ m ≤ 9223372036854775807 := by rw [← hm]; split <;> omega
  have HCD := Lib.hid (dcut_any t4.d cut m hm)
  have HCR := fun w5 (t5 : Tch (grow (fun _ => False) w1 w2) w4 w5) => rcut_any (t4.mid t5) cut m hm
  have HCR := Lib.hid HCR
  have T4 := Lib.hid t4
  have HLS := Lib.hid hls
  clear K3 HB3 HS2 HS1 HS3 HNR k4 hj b4 hls hsz hs1 hs2 hs3 t4 hgr hm HW3
  go_wp2_with fail
  with_reducible refine HCD.out.mono ?_
  rintro e w5 ⟨rfl, k5, t5⟩
  have K5 := Lib.hid k5
  have T5 := Lib.hid t5
  clear k5 t5 HCD
  go_wp2_with fail
  with_reducible refine (HCR.out w5 T5.out).mono ?_
  rintro e w6 ⟨rfl, k6, t6⟩
  have hst := T4.out.step T5.out K5.out.grown t6 k6.grown T4.out.hj T4.out.hw hm1.1 hm1.2 (n' := 0) (Nat.le_refl _) rfl
  obtain ⟨⟨Sd, Sr, h, c, W, cw, L, cl, V, cv, bs, ls2, ws, vs, left, off, t, hls2⟩, b6⟩ := hst
  have B6 := Lib.hid (HB4.out.trans b6)
  have hb6 := B6.out
  have HBW := Lib.hid (both_write t (by omega) p A cA b (HR.out.below hb6) hbc hcm hA0)
  clear K5 T5 HCR T4 k6 t6 t b6 hb6 HB4 HLS hls2
  go_wp2_with fail
  with_reducible refine HBW.out.mono ?_
  rintro e w7 ⟨E, x, rfl, hcode, hout⟩
  unfold CodeIs at hcode
  have HCO := Lib.hid hcode
  have HOU := Lib.hid hout
  clear hcode hout HBW
  go_wp2_with fail
  with_reducible refine (HCO.out w7).mono ?_
  rintro e w8 ⟨rfl, rfl⟩
  go_wp2_with fail
  with_reducible refine HOU.out.mono ?_
  rintro e w8 ⟨rfl, ⟨Sd, Sr, h, c, W, cw, L, cl, V, cv, bs, ls3, ws, vs, left, off, t8, hls3⟩, b8⟩
  have hq8 := both_read t8 fr q hq
  have HBR := Lib.hid hq8
  have T8 := Lib.hid t8
  have B8 := Lib.hid (B6.out.trans b8)
  clear HCO HOU t8 b8 hq8 B6 hls3
  go_wp2_with fail
  with_reducible refine HBR.out.mono ?_
  rintro e w9 ⟨A1, c1, o, E2, x2, rfl, hcode, r9, b9, hin⟩
  unfold CodeIs at hcode
  have HCO := Lib.hid hcode
  have HIN := Lib.hid hin
  have R9 := Lib.hid r9
  have B9 := Lib.hid b9
  clear hcode hin r9 b9 HBR
  go_wp2_with fail
  with_reducible refine HIN.out.mono ?_
  rintro e w10 ⟨A2, c2, rfl, r10, b10⟩
  obtain ⟨w11, hw11⟩ : ∃ w11, w10.drew = w11 := ⟨_, rfl⟩
  have r1 : Rd w11 w11.heap.size A1 o.length o := by rw [← hw11]; exact ((R9.out.below b10).more b10.size).drew
  have r2 : Rd w11 w11.heap.size A2 o.length o := by rw [← hw11]; exact r10.drew
  have hb8 : Below w8.heap.size w8 w11 := by rw [← hw11]; exact (B9.out.trans (b10.mono B9.out.size)).drew
  have t11 := T8.out.below hb8
  have b11 : Below w.heap.size w w11 := B8.out.trans (hb8.mono T8.out.hB)
  have HW11 := Lib.hid hw11
  have T11 := Lib.hid t11
  have B11 := Lib.hid b11
  have R1 := Lib.hid r1
  have R2 := Lib.hid r2
  have hsv := t11.same
  have hwn := t11.hn
  clear HIN R9 B9 r10 b10 hw11 r1 r2 hb8 t11 b11 T8 B8
  go_wp2_with fail
  refine wp_region_tail w11.heap.size [([0, 1, 2, 3, 4, 5, 6, 8], 7), ([9, 10, 11, 12, 14, 15, 16, 17, 18], 13)] [19, 20] [] (by kernel_rfl) (by kernel_rfl) (by kernel_rfl) (fun _ _ _ _ _ h => h) ?_
  rw [HW11.out]
  clear HW11 f0 f1 s1
  have q1 := conv_B R1.out
  have q2 := conv_B R2.out
  refine tail_cons (l := ?seg1) ?hseg1 ?_
  case hseg1 => simp only [pick, List.getElem?_toArray, List.getElem?_cons_succ, List.getElem?_cons_zero]; rfl
  repeat (go_big_quiet_step (fail))
  refine wpQuiet_nil ?_
  clear q1 q2
  refine tail_call (vs := #[E2]) Try.call10 rfl rfl rfl (R := fun r w' => r = .int .i64 x2 ∧ w' = w11) ((HCO.out w11).mono ?_) w11.heap.size (Nat.le_refl _) ?_
  · rintro e w' ⟨rfl, rfl⟩
    exact ⟨_, rfl, Below.refl _ _, rfl, rfl⟩
  rintro r w12 _ ⟨rfl, rfl⟩
  have z1 : ∀ z : LaterB w12.heap.size w12, z.val.cell? ⟨gr, 1, none⟩ = some (.slice V ws.length cv) := fun z => (z.ext.cell (p := ⟨gr, 1, none⟩) T11.out.r.lt).trans (hsv ▸ T11.out.r.c1)
  refine tail_cons (l := ?seg2) ?hseg2 ?_
  case hseg2 => simp only [pick, List.getElem?_toArray, List.getElem?_cons_succ, List.getElem?_cons_zero]; rfl
  simp only [Act.put, List.setIfInBounds_toArray, List.set_cons_zero, List.set_cons_succ]
  repeat (go_big_quiet_step (fail))
  refine wpQuiet_nil ?_
  clear z1
  refine tail_call (vs := #[.pointer (some ⟨g, 0, none⟩)]) Try.call15 rfl rfl rfl (R := fun r w' => r = .int .i64 (ws.length : Int) ∧ w' = w12) ((dwaiting_any T11.out.d).mono ?_) w12.heap.size (Nat.le_refl _) ?_
  · rintro e w' ⟨rfl, rfl⟩
    exact ⟨_, rfl, Below.refl _ _, rfl, rfl⟩
  rintro r w13 _ ⟨rfl, rfl⟩
  refine tail_last (l := ?la3) (t := []) ?hla3 ?htl3 ?_
  case hla3 => simp only [pick, List.getElem?_toArray, List.getElem?_cons_succ, List.getElem?_cons_zero]; rfl
  case htl3 => rfl
  simp only [Act.put, List.setIfInBounds_toArray, List.set_cons_zero, List.set_cons_succ]
  repeat (go_big_quiet_step (fail))
  refine wpQuiet_nil ?_
  clear hsv hwn R1 R2 HCO
  have hkp : ∀ S : Nat → Prop, (∀ j, S j → w.heap.size ≤ j) → Kp S w13 Kp_ kb := fun S hS hn => by
    obtain ⟨b', o', e, hlt, hc⟩ := HKB.out hn
    have := B11.out.size
    exact ⟨b', o', e, by omega, fun h => by have := hS b' h; omega, fun j u hu => (B11.out.cell (p := ⟨b', o' + j, none⟩) hlt).trans (hc j u hu)⟩
  have hlen := T11.out.len
  have hll := T11.out.hl
  have HG := Lib.hid (dboot_any (ck := kc) T11.out.d (by omega) (hkp Sd fun j hj => (T11.out.sd j hj).1) hkm)
  have HKP := Lib.hid (hkp Sr fun j hj => (T11.out.sr j hj).1)
  clear hkp hlen hll
  go_wp2_with fail
  with_reducible refine HG.out.mono ?_
  rintro e w14 ⟨rfl, k14, t14⟩
  have hkr : Kp Sr w14 Kp_ kb := fun hn => by
    obtain ⟨b', o', e, hlt, hs, hc⟩ := HKP.out hn
    obtain ⟨b2, o2, e2, hlt2, _⟩ := HKB.out hn
    rw [e] at e2
    injection e2 with e2
    injection e2 with e2 _
    subst e2
    have hnd : ¬ Sd b' := fun h => by have := (T11.out.sd b' h).1; omega
    exact ⟨b', o', e, Nat.lt_of_lt_of_le hlt t14.size, hs, fun j u hu => t14.cell (hc j u hu) hnd⟩
  have HM := Lib.hid (rboot_any (ck := kc) (T11.out.mid t14) hkr hkm)
  have K14 := Lib.hid k14
  have T14 := Lib.hid t14
  clear k14 t14 HG hkr
  go_wp2_with fail
  with_reducible refine HM.out.mono ?_
  rintro e w15 ⟨rfl, k15, t15⟩
  have hst := T11.out.step T14.out K14.out.grown t15 k15.grown (rstand_boot T11.out kb) rfl (by omega) (by omega) (n' := 0) (by simp) (rstand_length _ _)
  obtain ⟨⟨Sd2, Sr2, h2, c2, W2, cw2, L2, cl2, V2, cv2, bs2, ls4, ws2, vs2, left2, off2, t16, hls4⟩, b16⟩ := hst
  obtain ⟨w16, hw16⟩ : ∃ w16, w15.drew = w16 := ⟨_, rfl⟩
  have t17 := t16.below (Below.refl _ _).drew
  rw [hw16] at t17
  have hlen := t17.len
  have hl8 := t17.hl
  have hle : bs2.length ≤ 100000 := by omega
  have hm := fun W7 (hb : Below w16.heap.size w16 W7) => rbytes_any (t17.r.below hb) (by omega)
  rw [t17.hj] at hm
  have HG := Lib.hid (dbytes_any t17.d hle)
  have HMM := Lib.hid hm
  have BE : Hid (Below w.heap.size w w16) := (show Below w.heap.size w w16 by rw [← hw16]; exact (B11.out.trans b16).drew)
  have T17 := Lib.hid t17
  have HW16 := Lib.hid hw16
  clear hw16 t16 t17 hm hlen hle b16 hls4 k15 t15 K14 T14 HM B11 T11 HKP
  go_wp2_with fail
  refine wp_region_tail w16.heap.size [([0, 1, 2, 5], 3), ([4], 6)] [7, 8, 9, 10] [] (by kernel_rfl) (by kernel_rfl) (by kernel_rfl) (fun _ _ _ _ _ h => h) ?_
  rw [HW16.out]
  clear HW16
  refine tail_cons (l := ?segL2) ?hsegL2 ?_
  case hsegL2 => simp only [pick, List.getElem?_toArray, List.getElem?_cons_succ, List.getElem?_cons_zero]; rfl
  repeat (go_big_quiet_step (fail))
  refine wpQuiet_nil ?_
  refine tail_call2 (vs := #[.pointer (some ⟨g, 0, none⟩)]) Try.call18 rfl rfl rfl (R := fun r w' => ∃ A c, r = .slice A bs2.length c ∧ Rd w' w'.heap.size A bs2.length bs2 ∧ Below w16.heap.size w16 w') (HG.out.mono ?_) ?_
  · rintro e w' ⟨A', c', rfl, ho, hb⟩
    exact ⟨_, rfl, hb, A', c', rfl, (Rd.own' ho).1, hb⟩
  rintro r w17 _ ⟨A8, c8, rfl, r8, b8⟩
  refine ⟨w17.heap.size, b8.size, ?_⟩
  have qa := conv_B r8
  refine tail_cons (l := ?segL3) ?hsegL3 ?_
  case hsegL3 => simp only [pick, List.getElem?_toArray, List.getElem?_cons_succ, List.getElem?_cons_zero]; rfl
  simp only [Act.put, List.setIfInBounds_toArray, List.set_cons_zero, List.set_cons_succ]
  repeat (go_big_quiet_step (fail))
  refine wpQuiet_nil ?_
  clear qa
  refine tail_call2 (vs := #[.pointer (some ⟨gr, 0, none⟩)]) Try.call19 rfl rfl rfl (R := fun r w' => ∃ A c, r = .slice A bs2.length c ∧ Rd w' w'.heap.size A bs2.length bs2 ∧ Below w17.heap.size w17 w') ((HMM.out w17 b8).mono ?_) ?_
  · rintro e w' ⟨A', c', rfl, ho, hb⟩
    exact ⟨_, rfl, hb, A', c', rfl, (Rd.own' ho).1, hb⟩
  rintro r w18 _ ⟨A9, c9, rfl, r9, b9⟩
  refine ⟨w18.heap.size, b9.size, ?_⟩
  have qb := conv_B r9
  refine tail_last (l := ?laL4) (t := []) ?hlaL4 ?htlL4 ?_
  case hlaL4 => simp only [pick, List.getElem?_toArray, List.getElem?_cons_succ, List.getElem?_cons_zero]; rfl
  case htlL4 => rfl
  simp only [Act.put, List.setIfInBounds_toArray, List.set_cons_zero, List.set_cons_succ]
  repeat (go_big_quiet_step (fail))
  refine wpQuiet_nil ?_
  have HBE : Hid (Below w.heap.size w w18) := BE.out.trans ((b8.trans (b9.mono b8.size)).mono T17.out.hB)
  clear qb r8 r9 b8 b9 HG HMM T17 BE
  go_wp2
  go_ret
  exact ⟨rfl, HBE.out⟩
end Go.Proofs.Ytkddcfaomaphaaa
