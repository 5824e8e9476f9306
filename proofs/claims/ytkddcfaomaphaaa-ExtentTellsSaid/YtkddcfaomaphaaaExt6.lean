/- The contract of the document's own Write on many sectors. -/
import Derived.Test.YtkddcfaomaphaaaExt5
namespace Go.Proofs.Ytkddcfaomaphaaa
open Go.RowKit

set_option maxRecDepth 100000 in
theorem padAll_sec (b : List UInt8) (j r : Nat) : ((padAll b (j + 1 + r)).drop (512 * j)).take 512 = padd b j := by
  induction r with
  | zero =>
    have hl : (padAll b j).length = 512 * j := by rw [padAll_eq]; simp; omega
    have hp := padd_length b j
    rw [padAll_succ, ← hl, List.drop_left, ← hp, List.take_length]
  | succ r ih =>
    have hl : (padAll b (j + 1 + r)).length = 512 * (j + 1 + r) := by rw [padAll_eq]; simp; omega
    rw [show j + 1 + (r + 1) = j + 1 + r + 1 by omega, padAll_succ, List.drop_append_of_le_length (by omega), List.take_append_of_le_length (by rw [List.length_drop]; omega)]
    exact ih
theorem padAll_length (b : List UInt8) (j : Nat) : (padAll b j).length = 512 * j := by rw [padAll_eq]; simp; omega

section
variable {S : Nat → Prop} {w : World} {g : Nat} {L : Option Addr} {cl : Nat} {W : Option Addr} {cw : Nat} {ls ws : List Wr} {left : Int} {off : Bool}
theorem rwrite_good (k : Rk S w g L cl W cw ls ws left false) (hws : ws.length ≤ 1000000) (hl0 : left ≠ 0) (hl2 : left ≤ 9223372036854775807) (i : Nat) (hi : i < ls.length) (A : Option Addr) (cA : Nat) (d : List UInt8) (hd : d.length = 512) (hr : Rd w w.heap.size A 512 d) (hAg : ∀ a, A = some a → a.block ≠ g) :
    Calls Try.prog 27 #[.pointer (some ⟨g, 0, none⟩), .int .i64 (i : Int), .slice A 512 cA] w fun e w' => e = .returned (.int .i64 0) ∧ (∃ W' cw' b cb, Rk (grow S w w') w' g L cl W' cw' ls (ws ++ [⟨i, b, cb, d⟩]) (wleft left 1) false) ∧ Tch S w w' := by
  by_cases h0 : left < 0
  · have e : wleft left 1 = left := by simp [wleft, h0]
    rw [e]
    exact rwrite_neg k hws h0 i hi A cA d hd hr hAg
  · have e : wleft left 1 = left - 1 := by simp [wleft, h0]
    rw [e]
    exact rwrite_pos k hws (by omega) hl2 i hi A cA d hd hr hAg
theorem rwrite_bad (k : Rk S w g L cl W cw ls ws left off) (hbad : off = true ∨ left = 0) (i : Nat) (hi : i < ls.length) (A : Option Addr) (cA : Nat) :
    Calls Try.prog 27 #[.pointer (some ⟨g, 0, none⟩), .int .i64 (i : Int), .slice A 512 cA] w fun e w' => e = .returned (.int .i64 6) ∧ Rk S w' g L cl W cw ls ws left true ∧ Tch S w w' := by
  by_cases h0 : left = 0
  · subst h0
    exact rwrite_cut k i hi A cA
  · obtain rfl : off = true := by rcases hbad with h | h; exact h; exact absurd h h0
    refine (rwrite_off k h0 i hi A cA).mono ?_
    rintro e w' ⟨rfl, rfl⟩
    exact ⟨rfl, k, Tch.refl _ _⟩

set_option maxRecDepth 100000 in
set_option maxHeartbeats 1000000 in
theorem rout_fit (k : Rk S w g L cl W cw ls ws left off) (hSl : ∀ j, S j → j < w.heap.size) (N : Nat) (hN : ls.length = N) (hN2 : N ≤ 128) (hws : ws.length ≤ 100000) (hl2 : left ≤ 9223372036854775807) (p : Nat) (A : Option Addr) (cA : Nat) (b : List UInt8) (hr : Rd w w.heap.size A b.length b) (hA0 : A = none → cA = 0) (K : Nat) (hK : need b.length = K) (hfit : p + K ≤ N) (m : Nat) (hm : wk K left off = m) :
    Calls Try.prog 12 #[.pointer (some ⟨g, 0, none⟩), .int .i64 (p : Int), .slice A b.length cA] w fun e w' => e = .returned (.int .i64 (if m < K then 6 else 0)) ∧ (∃ W' cw' vs, Rk (grow S w w') w' g L cl W' cw' ls vs (wleft left m) (off || decide (m < K)) ∧ vs.map Wr.two = ws.map Wr.two ++ puts p b m) ∧ Tch S w w' := by
  have hmK : m ≤ K := by rw [← hm]; unfold wk; split; omega; split; omega; omega
  have hbl : b.length ≤ 65536 := by unfold need at hK; omega
  have hon : off = true → m = 0 := fun e => by rw [← hm]; unfold wk; simp [e]
  have hml : off = false → (m : Int) ≤ left ∨ left < 0 := fun e => by
    rw [← hm]; unfold wk
    by_cases h0 : left < 0
    · exact .inr h0
    · left; simp [e, h0]; omega
  have hmlt : off = false → m < K → left = (m : Int) := fun e h => by
    rw [← hm] at h ⊢; unfold wk at h ⊢
    by_cases h0 : left < 0
    · simp [e, h0] at h
    · simp [e, h0] at h ⊢; omega
  obtain ⟨w1, hw1⟩ : ∃ w1, w.drew = w1 := ⟨_, rfl⟩
  have hz1 : w1.heap.size = w.heap.size := by rw [← hw1]; rfl
  have k1 : Rk S w1 g L cl W cw ls ws left off := by rw [← hw1]; exact k.drew
  have r1 : Rd w1 w1.heap.size A b.length b := by rw [hz1, ← hw1]; exact hr.drew
  have t1 : Tch S w w1 := by rw [← hw1]; exact (Tch.refl _ _).drew
  have HE := Lib.hid (rsectors_any w1 b.length (by omega) K hK)
  have s1 : decide ((p : Int) < 0) = false := decide_eq_false (by omega)
  have s2 : decide (ls.length < p) = false := decide_eq_false (by omega)
  have s3 : decide ((ls.length : Int) - (p : Int) < (K : Int)) = false := decide_eq_false (by omega)
  obtain ⟨hc1, hc2, _, _⟩ := k1.caps
  unfold maxLen at hc2
  have HK1 := Lib.hid k1
  have HR := Lib.hid r1
  have HW1 := Lib.hid hw1
  have HZ1 := Lib.hid hz1
  have HT1 := Lib.hid t1
  have HK := Lib.hid hK
  have HN := Lib.hid hN
  have HSL := Lib.hid hSl
  clear k hr hm k1 r1 hw1 t1 hz1 hK hN hSl
  go_enter Try.func12, Try.ntmps12
  go_wp2_with fail
  refine wp_region_tail w1.heap.size [([0, 1, 2, 3, 4, 5, 6, 7, 8, 9, 10, 11, 12, 13, 15, 16, 17, 18, 19, 20, 21], 14)] [22, 23] [] (by kernel_rfl) (by kernel_rfl) (by kernel_rfl) (fun _ _ _ _ _ h => h) ?_
  rw [HW1.out]
  clear HW1
  have z0 : ∀ z : LaterB w1.heap.size w1, z.val.cell? ⟨g, 0, none⟩ = some (.slice L ls.length cl) := fun z => (z.ext.cell (p := ⟨g, 0, none⟩) HK1.out.lt).trans HK1.out.c0
  refine tail_cons (l := ?seg1) ?hseg1 ?_
  case hseg1 => simp only [pick, List.getElem?_toArray, List.getElem?_cons_succ, List.getElem?_cons_zero]; rfl
  repeat (go_big_quiet_step (fail))
  refine wpQuiet_nil ?_
  clear z0
  refine tail_call (vs := #[.int .i64 (b.length : Int)]) Try.call21 rfl rfl rfl (R := fun r w' => r = .int .i64 (K : Int) ∧ w' = w1) (HE.out.mono ?_) w1.heap.size (Nat.le_refl _) ?_
  · rintro e w' ⟨rfl, rfl⟩
    exact ⟨_, rfl, Below.refl _ _, rfl, rfl⟩
  rintro r w2 _ ⟨rfl, rfl⟩
  refine tail_last (l := ?la2) (t := []) ?hla2 ?htl2 ?_
  case hla2 => simp only [pick, List.getElem?_toArray, List.getElem?_cons_succ, List.getElem?_cons_zero]; rfl
  case htl2 => rfl
  simp only [Act.put, List.setIfInBounds_toArray, List.set_cons_zero, List.set_cons_succ]
  repeat (go_big_quiet_step (fail))
  refine wpQuiet_nil ?_
  clear s1 s2 s3 HE
  have OWN1 : Hid ((w2.alloc (.cells #[] 5)).ownsRow w2.heap.size 5 1 (.slice (some ⟨w2.heap.size, 0, none⟩) 0 0) 0 (([] : List UInt8).map bv)) := World.ownsRow_lit w2 _ 0 (Nat.le_refl _) (by unfold maxLen; omega) rfl
  have HRA := Lib.hid (HR.out.alloc (Nat.le_refl _) (.cells #[] 5))
  go_wp2_with (first
    | (at_builtin; go_must (refine append_bytes rfl (.tmp 34) (.tmp 35) 22 5 rfl Try.underlying22 u8_inf w2.heap.size (.slice (some ⟨w2.heap.size, 0, none⟩) 0 0) 0 [] rfl OWN1.out w2.heap.size A b.length cA b rfl HRA.out hA0 (by omega) (by simp) ?_); intro x3 w3 own3 hb3 gr3; have own4 : w3.ownsRow w2.heap.size 5 1 x3 b.length (b.map bv) := (by simpa using own3); have OWN3 := Lib.hid own4; have HB3 : Hid (Below w2.heap.size w2 w3) := ((Below.refl _ _).alloc (Nat.le_refl _) _).trans hb3; clear own3 own4 gr3 hb3))
  have HB23 := Lib.hid HB3.out.size
  obtain ⟨B2, hB2⟩ : ∃ B2, w2.heap.size = B2 := ⟨_, rfl⟩
  rw [hB2] at OWN3 HB3 HB23
  have HB2 := Lib.hid hB2
  clear OWN1 HRA HR
  clear hB2
  go_loopw [7] (fun o wr => ∃ al : List UInt8, b.length ≤ al.length ∧ al.length ≤ 512 * K ∧ al = b ++ List.replicate (al.length - b.length) 0 ∧ wr.ownsRow B2 5 1 o al.length (al.map bv) ∧ Below B2 w2 wr) (fun o _ => match o with | .slice _ n _ => 512 * K - n | _ => 0)
  case atStart => exact ⟨b, Nat.le_refl _, (by have := HK.out; unfold need at this; omega), by simp, OWN3.out, HB3.out⟩
  case round =>
    obtain ⟨al, h1, h2, h3, hown, hb⟩ := hrel
    obtain ⟨_, A7, c7, rfl⟩ := own_slice hown
    by_cases hmod : al.length % 512 = 0
    · have hl : al.length = 512 * K := by have := HK.out; unfold need at this; omega
      have e : al = padAll b K := by
        rw [padAll_eq, List.take_of_length_le (by omega), ← hl]
        exact h3
      have s1 : decide ((0 : Int) < (al.length : Int) % 512) = false := decide_eq_false (by omega)
      have s4 : (al.length : Int) / 512 = (K : Int) := by omega
      have hbs : Below w2.heap.size w2 wr := by rw [HB2.out]; exact hb
      have k4 := HK1.out.below hbs
      have t4 : Tch S w wr := HT1.out.trans (Tch.of_below (S := S) hbs) (fun _ _ h => h)
      have k4' : Rk (grow S wr wr) wr g L cl W cw ls ws (wleft left 0) off := by rw [wleft_zero]; exact k4.grown
      have hA7 : 0 < K → ∃ ba, A7 = some ⟨ba, 0, none⟩ ∧ al.length ≤ c7 ∧ Rd wr wr.heap.size (some ⟨ba, 0, none⟩) al.length al ∧ ¬ S ba ∧ ba ≠ g := fun h0 => by
        obtain ⟨ba, cap, e1, hc, hrd⟩ := own_rd hown (by omega)
        injection e1 with e1 _ e3
        subst e1 e3
        have hba := (hown.lt ba rfl).1
        have hz := HZ1.out
        have hb2 := HB2.out
        refine ⟨ba, rfl, hc, hrd, fun hs => ?_, fun e => ?_⟩
        · have := HSL.out _ hs; omega
        · have := HK1.out.lt; omega
      have hc7 : c7 ≤ 9223372036854775807 := by
        rcases hown.2 with ⟨h', _⟩ | ⟨_, _, _, h', _, _, _, hm, _⟩
        · injection h' with _ _ e; omega
        · injection h' with _ _ e; unfold maxLen at hm; omega
      have HA7 := Lib.hid hA7
      have HAL := Lib.hid hl
      have HE := Lib.hid e
      have HT4 := Lib.hid t4
      have K4 := Lib.hid k4'
      clear h3 hown hb e hbs k4 t4 k4' hA7 HB3 OWN3 HB23 hl
      generalize wr = w5 at *
      go_wp2
      clear s1
      go_loopw [8] (fun i wr => ∃ j : Nat, j ≤ m ∧ i = .int .i64 j ∧ (∃ W' cw' vs, Rk (grow S w5 wr) wr g L cl W' cw' ls vs (wleft left j) off ∧ vs.map Wr.two = ws.map Wr.two ++ puts p b j) ∧ Tch S w5 wr) (fun i _ => K - (intOf i).toNat)
      case atStart => exact ⟨0, Nat.zero_le _, rfl, ⟨W, cw, ws, K4.out, by simp [puts]⟩, Tch.refl _ _⟩
      case round =>
        obtain ⟨j, hj, rfl, ⟨W', cw', vs, kr, hvs⟩, ht⟩ := hrel
        have hvl : vs.length = ws.length + j := by have := congrArg List.length hvs; simpa [puts_length] using this
        by_cases hlt : j < K
        · obtain ⟨ba, rfl, hbc, hrd, hbS, hbg⟩ := HA7.out (by omega)
          have rr := hrd.tch ht (fun a e hs => by injection e with e; subst e; exact hbS hs)
          have rs := rr.sub (512 * j) 512 (by have := HAL.out; omega)
          have ed : (al.drop (512 * j)).take 512 = padd b j := by
            rw [HE.out, show K = j + 1 + (K - (j + 1)) by omega]
            exact padAll_sec b j _
          rw [ed, Nat.zero_add] at rs
          have HVS := Lib.hid hvs
          have HT := Lib.hid ht
          have hne : ¬ c7 = 512 * j := by have := HAL.out; omega
          have hin : 512 * j + 512 ≤ c7 := by have := HAL.out; omega
          by_cases hjm : j < m
          · have hof : off = false := by
              cases off
              · rfl
              · have := hon rfl; omega
            subst hof
            have hml' := hml rfl
            have hl0 : wleft left j ≠ 0 := by unfold wleft; split <;> omega
            have hl3 : wleft left j ≤ 9223372036854775807 := by unfold wleft; split <;> omega
            have HW := rwrite_good kr (by omega) hl0 hl3 (p + j) (by have := HN.out; omega) (some ⟨ba, 512 * j, none⟩) (c7 - 512 * j) (padd b j) (padd_length b j) rs (fun a e => by
              injection e with e; subst e
              exact hbg)
            rw [wleft_succ left j (by omega), Int.natCast_add] at HW
            have HW := Lib.hid HW
            clear rr rs ed hvs ht kr hl0 hl3 hrd
            go_wp2_with fail
            with_reducible refine HW.out.mono ?_
            rintro e w6 ⟨rfl, ⟨W3, cw3, b3, cb3, k3⟩, t3⟩
            have t03 := HT.out.regrow t3
            have hsr := HT.out.size
            have k3' : Rk (grow S w5 w6) w6 g L cl W3 cw3 ls (vs ++ [⟨p + j, b3, cb3, padd b j⟩]) (wleft left (j + 1)) false := k3.more fun i hi => by
              have h3 := t3.size
              rcases (k3.foot hi).1 with (h | h) | h
              · exact .inl h
              · exact .inr ⟨h.1, by omega⟩
              · exact .inr ⟨by omega, h.2⟩
            have e3 : (vs ++ [(⟨p + j, b3, cb3, padd b j⟩ : Wr)]).map Wr.two = ws.map Wr.two ++ puts p b (j + 1) := by rw [List.map_append, HVS.out, puts_succ, List.append_assoc]; rfl
            have K3 := Lib.hid k3'
            have E3 := Lib.hid e3
            have T3 := Lib.hid t03
            clear k3 t3 t03 k3' e3 HW
            go_wp2
            go_roundw
            case rel => exact ⟨j + 1, by omega, by go_num, ⟨W3, cw3, _, K3.out, E3.out⟩, T3.out⟩
            case measure => simp [intOf]; omega
          · obtain rfl : j = m := by omega
            have hbad : off = true ∨ wleft left j = 0 := by
              cases off
              · right
                have := hmlt rfl hlt
                unfold wleft; split <;> omega
              · exact .inl rfl
            have HW := rwrite_bad kr hbad (p + j) (by have := HN.out; omega) (some ⟨ba, 512 * j, none⟩) (c7 - 512 * j)
            rw [Int.natCast_add] at HW
            have HW := Lib.hid HW
            clear rr rs ed hvs ht kr hrd
            go_wp2_with fail
            with_reducible refine HW.out.mono ?_
            rintro e w6 ⟨rfl, k3, t3⟩
            have t03 := HT.out.regrow t3
            have hsr := HT.out.size
            have hs4 := HT4.out.size
            have k3' : Rk (grow S w w6) w6 g L cl W' cw' ls vs (wleft left j) true := k3.more fun i hi => by
              have h3 := t3.size
              rcases (k3.foot hi).1 with h | h
              · exact .inl h
              · exact .inr ⟨by omega, by omega⟩
            have K3 := Lib.hid k3'
            have T3 := Lib.hid (HT4.out.trans t03 (fun _ _ h => h))
            clear k3 t3 t03 k3' HW
            go_wp2
            go_ret
            exact ⟨rfl, ⟨W', cw', _, K3.out, HVS.out⟩, T3.out⟩
        · obtain rfl : j = K := by omega
          obtain rfl : m = j := by omega
          have hsr := ht.size
          have hs4 := HT4.out.size
          have k3' : Rk (grow S w wr) wr g L cl W' cw' ls vs (wleft left m) off := kr.more fun i hi => by
            rcases (kr.foot hi).1 with h | h
            · exact .inl h
            · exact .inr ⟨by omega, h.2⟩
          have K3 := Lib.hid k3'
          have T3 := Lib.hid (HT4.out.trans ht (fun _ _ h => h))
          have HVS := Lib.hid hvs
          clear kr ht hvs k3'
          go_wp2
          go_ret
          exact ⟨rfl, ⟨W', cw', _, K3.out, HVS.out⟩, T3.out⟩
    · have s1 : decide ((0 : Int) < (al.length : Int) % 512) = true := decide_eq_true (by omega)
      have hlt : al.length < 512 * K := by
        rcases Nat.lt_or_ge al.length (512 * K) with h | h
        · exact h
        · exfalso; have : al.length = 512 * K := by omega
          omega
      have hbw : Below wr.heap.size wr (wr.alloc (.cells #[.int .u8 0] 5)) := (Below.refl _ _).alloc (Nat.le_refl _) _
      have OWN := Lib.hid (own_below hown hbw)
      have hn4 : Fill (wr.alloc (.cells #[.int .u8 0] 5)) wr.heap.size 5 [0] := heap_alloc_new wr _
      have RD := Lib.hid hn4.reads
      have hB2w : B2 ≤ wr.heap.size := by
        have h5 := hb.size
        have h6 := HB2.out
        omega
      have e3 : al ++ [0] = b ++ List.replicate ((al ++ [(0 : UInt8)]).length - b.length) 0 := by
        rw [List.length_append, List.length_singleton, show al.length + 1 - b.length = (al.length - b.length) + 1 by omega, List.replicate_succ', ← List.append_assoc, ← h3]
      have HE3 := Lib.hid e3
      have HB := Lib.hid (hb.trans (hbw.mono hB2w))
      clear h3 hown hb hbw hn4 e3 OWN3 HB3
      go_wp2_with (first
        | (at_builtin; go_must (refine append_bytes rfl (.tmp 41) (.tmp 42) 22 5 rfl Try.underlying22 u8_inf B2 _ al.length al rfl OWN.out _ (some ⟨wr.heap.size, 0, none⟩) 1 1 [0] rfl RD.out (fun e => by cases e) (by omega) (by simp; omega) ?_); intro x4 w4 own4 hb4 gr4; have OWN4 := Lib.hid own4; have HB4 := Lib.hid (HB.out.trans hb4); clear own4 gr4 hb4))
      go_roundw
      case rel =>
        obtain ⟨_, A8, c8, rfl⟩ := own_slice OWN4.out
        refine ⟨al ++ [0], by simp; omega, by simp; omega, HE3.out, ?_, HB4.out⟩
        have := OWN4.out
        rw [List.length_append, List.length_singleton] at this ⊢
        exact this
      case measure =>
        obtain ⟨_, A8, c8, rfl⟩ := own_slice OWN4.out
        simp; omega

set_option maxRecDepth 100000 in
set_option maxHeartbeats 1000000 in
theorem rout_arg (k : Rk S w g L cl W cw ls ws left off) (N : Nat) (hN : ls.length = N) (hN2 : N ≤ 128) (p : Int) (A : Option Addr) (n cA : Nat) (hn : n ≤ 9223372036854775807) (hfit : p < 0 ∨ (N : Int) < p + need n) :
    Calls Try.prog 12 #[.pointer (some ⟨g, 0, none⟩), .int .i64 p, .slice A n cA] w fun e w' => e = .returned (.int .i64 1) ∧ Below w.heap.size w w' := by
  subst hN
  have c0 := k.c0
  by_cases h0 : p < 0
  · have s1 : decide (p < 0) = true := decide_eq_true h0
    clear hfit k
    go_enter Try.func12, Try.ntmps12
    go_wp2_with fail
    go_quiet (fail)
    go_wp2
    go_ret
    exact ⟨rfl, below_drewN _ _⟩
  · obtain ⟨p, rfl⟩ : ∃ q : Nat, p = (q : Int) := ⟨p.toNat, by omega⟩
    have s1 : decide ((p : Int) < 0) = false := decide_eq_false h0
    by_cases h1 : ls.length < p
    · have s2 : decide (ls.length < p) = true := decide_eq_true (by omega)
      clear hfit k
      go_enter Try.func12, Try.ntmps12
      go_wp2_with fail
      go_quiet (fail)
      go_wp2
      go_ret
      exact ⟨rfl, below_drewN _ _⟩
    · have s2 : decide (ls.length < p) = false := decide_eq_false (by omega)
      obtain ⟨m, hm⟩ : ∃ m, need n = m := ⟨_, rfl⟩
      have hm2 : m ≤ 18014398509481985 := by unfold need at hm; omega
      have s3 : decide ((ls.length : Int) - (p : Int) < (m : Int)) = true := decide_eq_true (by omega)
      obtain ⟨w1, hw1⟩ : ∃ w1, w.drew = w1 := ⟨_, rfl⟩
      have hb1 : Below w.heap.size w w1 := by rw [← hw1]; exact (Below.refl _ _).drew
      have k1 := k.below hb1
      have HE := Lib.hid (rsectors_any w1 n hn m hm)
      have HW1 := Lib.hid hw1
      have HK1 := Lib.hid k1
      have HB1 := Lib.hid hb1
      clear hfit k k1 hw1 hb1 hm
      go_enter Try.func12, Try.ntmps12
      go_wp2_with fail
      refine wp_region_tail w1.heap.size [([0, 1, 2, 3, 4, 5, 6, 7, 8, 9, 10, 11, 12, 13, 15, 16, 17, 18, 19, 20, 21], 14)] [22, 23] [] (by kernel_rfl) (by kernel_rfl) (by kernel_rfl) (fun _ _ _ _ _ h => h) ?_
      rw [HW1.out]
      clear HW1 c0
      have z0 : ∀ z : LaterB w1.heap.size w1, z.val.cell? ⟨g, 0, none⟩ = some (.slice L ls.length cl) := fun z => (z.ext.cell (p := ⟨g, 0, none⟩) HK1.out.lt).trans HK1.out.c0
      refine tail_cons (l := ?seg1) ?hseg1 ?_
      case hseg1 => simp only [pick, List.getElem?_toArray, List.getElem?_cons_succ, List.getElem?_cons_zero]; rfl
      repeat (go_big_quiet_step (fail))
      refine wpQuiet_nil ?_
      clear z0
      refine tail_call (vs := #[.int .i64 (n : Int)]) Try.call21 rfl rfl rfl (R := fun r w' => r = .int .i64 (m : Int) ∧ w' = w1) (HE.out.mono ?_) w1.heap.size (Nat.le_refl _) ?_
      · rintro e w' ⟨rfl, rfl⟩
        exact ⟨_, rfl, Below.refl _ _, rfl, rfl⟩
      rintro r w2 _ ⟨rfl, rfl⟩
      refine tail_last (l := ?la2) (t := []) ?hla2 ?htl2 ?_
      case hla2 => simp only [pick, List.getElem?_toArray, List.getElem?_cons_succ, List.getElem?_cons_zero]; rfl
      case htl2 => rfl
      simp only [Act.put, List.setIfInBounds_toArray, List.set_cons_zero, List.set_cons_succ]
      repeat (go_big_quiet_step (fail))
      refine wpQuiet_nil ?_
      clear s1 s2 s3 HE
      go_wp2
      go_ret
      exact ⟨rfl, HB1.out⟩
end
end Go.Proofs.Ytkddcfaomaphaaa
