/- The contract of extent.Write. -/
import Derived.Test.YtkddcfaomaphaaaExt1
namespace Go.Proofs.Ytkddcfaomaphaaa
open Go.RowKit

/-- So many of K writes are taken; so many are left behind j. -/
def wk (K : Nat) (left : Int) (off : Bool) : Nat := if off = true then 0 else if left < 0 then K else min K left.toNat
def wleft (left : Int) (j : Nat) : Int := if left < 0 then left else left - j
/-- The first j sectors of bytes, and where they are to stand. -/
def puts (p : Nat) (b : List UInt8) (j : Nat) : List (Nat × List UInt8) := (List.range j).map fun i => (p + i, padd b i)
theorem puts_succ (p : Nat) (b : List UInt8) (j : Nat) : puts p b (j + 1) = puts p b j ++ [(p + j, padd b j)] := by simp [puts, List.range_succ]
theorem padd_drop (b : List UInt8) (i : Nat) : padd (b.drop (i * 512)) 0 = padd b i := by simp [padd]
theorem puts_length (p : Nat) (b : List UInt8) (j : Nat) : (puts p b j).length = j := by simp [puts]
theorem wleft_zero (left : Int) : wleft left 0 = left := by unfold wleft; split <;> omega
theorem wleft_succ (left : Int) (j : Nat) (h : (j : Int) ≤ left ∨ left < 0) : wleft (wleft left j) 1 = wleft left (j + 1) := by
  unfold wleft
  by_cases h0 : left < 0
  · simp [h0]
  · have : ¬ (left - (j : Int) < 0) := by omega
    simp [h0, this]; omega

section
variable {S : Nat → Prop} {w : World} {g h c : Nat} {W : Option Addr} {cw : Nat} {bs : List UInt8} {ws : List Wr} {left : Int} {off : Bool}
theorem dwrite_good (k : Dk S w g h c W cw bs ws left false) (hl : bs.length ≤ 100000) (hws : ws.length ≤ 1000000) (hl0 : left ≠ 0) (hl2 : left ≤ 9223372036854775807) (i : Nat) (hi : i * 512 + 512 ≤ bs.length) (A : Option Addr) (cA : Nat) (d : List UInt8) (hd : d.length = 512) (hr : Rd w w.heap.size A 512 d) (hAg : ∀ a, A = some a → a.block ≠ g) :
    Calls Try.prog 25 #[.pointer (some ⟨g, 0, none⟩), .int .i64 (i : Int), .slice A 512 cA] w fun e w' => e = .returned .nilIface ∧ (∃ W' cw' b cb, Dk (grow S w w') w' g h c W' cw' bs (ws ++ [⟨i, b, cb, d⟩]) (wleft left 1) false) ∧ Tch S w w' := by
  by_cases h0 : left < 0
  · have e : wleft left 1 = left := by simp [wleft, h0]
    rw [e]
    exact dwrite_neg k hl hws h0 i hi A cA d hd hr
  · have e : wleft left 1 = left - 1 := by simp [wleft, h0]
    rw [e]
    exact dwrite_pos k hl hws (by omega) hl2 i hi A cA d hd hr hAg
theorem dwrite_bad (k : Dk S w g h c W cw bs ws left off) (hl : bs.length ≤ 100000) (hbad : off = true ∨ left = 0) (i : Nat) (hi : i * 512 + 512 ≤ bs.length) (A : Option Addr) (cA : Nat) :
    Calls Try.prog 25 #[.pointer (some ⟨g, 0, none⟩), .int .i64 (i : Int), .slice A 512 cA] w fun e w' => e = .returned (.iface 54 (.int .i64 6)) ∧ Dk S w' g h c W cw bs ws left true ∧ Tch S w w' := by
  by_cases h0 : left = 0
  · subst h0
    exact dwrite_cut k hl i hi A cA
  · obtain rfl : off = true := by rcases hbad with h | h; exact h; exact absurd h h0
    refine (dwrite_off k hl h0 i hi A cA).mono ?_
    rintro e w' ⟨rfl, rfl⟩
    exact ⟨rfl, k, Tch.refl _ _⟩
theorem Dk.regrow {S : Nat → Prop} {w w1 w2 : World} (k : Dk (grow (grow S w w1) w1 w2) w2 g h c W cw bs ws left off) (h1 : w.heap.size ≤ w1.heap.size) (h2 : w1.heap.size ≤ w2.heap.size) : Dk (grow S w w2) w2 g h c W cw bs ws left off := k.more fun j hj => by
  rcases (k.foot hj).1 with (h | h) | h
  · exact .inl h
  · exact .inr ⟨h.1, by omega⟩
  · exact .inr ⟨by omega, h.2⟩
/-- From what changed there to what changed here. -/
theorem Tch.regrow {S : Nat → Prop} {w w1 w2 : World} (h : Tch S w w1) (h2 : Tch (grow S w w1) w1 w2) : Tch S w w2 := h.trans h2 fun i hi hg => by
  rcases hg with h | h
  · exact h
  · omega

set_option maxRecDepth 100000 in
set_option maxHeartbeats 1000000 in
theorem ewrite_fit (k : Dk S w g h c W cw bs ws left off) (N : Nat) (hN : bs.length = 512 * N) (hN2 : N ≤ 128) (hws : ws.length ≤ 100000) (hl2 : left ≤ 9223372036854775807) (p : Nat) (A : Option Addr) (cA : Nat) (b : List UInt8) (hr : Rd w w.heap.size A b.length b) (hA : b.length ≤ cA) (hAm : cA ≤ 9223372036854775807) (hAS : 0 < b.length → ∀ a, A = some a → ¬ S a.block) (K : Nat) (hK : need b.length = K) (hfit : p + K ≤ N) (m : Nat) (hm : wk K left off = m) :
    Calls Try.prog 11 #[.pointer (some ⟨g, 0, none⟩), .int .i64 (p : Int), .slice A b.length cA] w fun e w' => e = .returned (if m < K then .iface 54 (.int .i64 6) else .nilIface) ∧ (∃ W' cw' vs, Dk (grow S w w') w' g h c W' cw' bs vs (wleft left m) (off || decide (m < K)) ∧ vs.map Wr.two = ws.map Wr.two ++ puts p b m) ∧ Tch S w w' := by
  have hmK : m ≤ K := by rw [← hm]; unfold wk; split; omega; split; omega; omega
  have hbl : b.length ≤ 65536 := by unfold need at hK; omega
  have hon : off = true → m = 0 := fun e => by rw [← hm]; unfold wk; simp [e]
  have hml : off = false → (m : Int) ≤ left ∨ left < 0 := fun e => by
    rw [← hm]; unfold wk
    by_cases h0 : left < 0
    · exact .inr h0
    · left; simp [e, h0]; omega
  have hmlt : off = false → m < K → left = (m : Int) := fun e h => by
    rw [← hm] at h ⊢; unfold wk at h ⊢
    by_cases h0 : left < 0
    · simp [e, h0] at h
    · simp [e, h0] at h ⊢; omega
  have HF := Lib.hid (efits_yes k N hN hN2 p b.length (by rw [hK]; exact hfit))
  have HE := Lib.hid (esectors_any w b.length (by omega) K hK)
  have k0 : Dk (grow S w w) w g h c W cw bs ws (wleft left 0) off := by rw [wleft_zero]; exact k.more fun j hj => .inl (k.foot hj).1
  have HK := Lib.hid hK
  have HNN := Lib.hid hN
  have HR := Lib.hid hr
  clear hK hN hr hm k
  go_enter Try.func11, Try.ntmps11
  go_wp2_with fail
  with_reducible refine HF.out.mono ?_
  rintro e w1 ⟨rfl, rfl⟩
  go_wp2_with fail
  with_reducible refine HE.out.mono ?_
  rintro e w1 ⟨rfl, rfl⟩
  clear HF HE
  go_wp2
  go_loopw [19] (fun i wr => ∃ j : Nat, j ≤ m ∧ i = .int .i64 j ∧ (∃ W' cw' vs, Dk (grow S w wr) wr g h c W' cw' bs vs (wleft left j) off ∧ vs.map Wr.two = ws.map Wr.two ++ puts p b j) ∧ Tch S w wr) (fun i _ => K - (intOf i).toNat)
  case atStart => exact ⟨0, Nat.zero_le _, rfl, ⟨W, cw, ws, k0, by simp [puts]⟩, Tch.refl _ _⟩
  case round =>
    obtain ⟨j, hj, rfl, ⟨W', cw', vs, kr, hvs⟩, ht⟩ := hrel
    have hvl : vs.length = ws.length + j := by have := congrArg List.length hvs; simpa [puts_length] using this
    by_cases hlt : j < K
    · have hjb : j * 512 < b.length := by have := HK.out; unfold need at this; omega
      have rr := HR.out.tch ht (hAS (by omega))
      obtain ⟨bA, oA, rfl, hbA, _⟩ := rr.2 (by omega)
      obtain ⟨cs, hcs⟩ : ∃ cs, b.drop (j * 512) = cs := ⟨_, rfl⟩
      have hcl : cs.length = b.length - j * 512 := by rw [← hcs]; simp
      have rs := rr.sub (j * 512) (b.length - j * 512) (by omega)
      rw [List.take_of_length_le (by simp), hcs, ← hcl] at rs
      have HP := epadded_any wr ⟨bA, oA + j * 512, none⟩ (cA - j * 512) cs rs (by omega) (by omega)
      rw [hcl, ← hcs, padd_drop] at HP
      have HP := Lib.hid HP
      have HKR := Lib.hid kr
      have HVS := Lib.hid hvs
      have HT := Lib.hid ht
      have hne : ¬ cA = j * 512 := by omega
      clear rr rs hcs kr hvs ht k0
      go_wp2_with fail
      with_reducible refine HP.out.mono ?_
      rintro e w2 ⟨rfl, hf, hb⟩
      have rf := hf.reads
      rw [padd_length] at rf
      have k2 := HKR.out.below hb
      by_cases hjm : j < m
      · have hof : off = false := by
          cases off
          · rfl
          · have := hon rfl; omega
        subst hof
        have hml' := hml rfl
        have hl0 : wleft left j ≠ 0 := by unfold wleft; split <;> omega
        have hl3 : wleft left j ≤ 9223372036854775807 := by unfold wleft; split <;> omega
        have HW := dwrite_good k2 (by have := HNN.out; omega) (by omega) hl0 hl3 (p + j) (by have := HNN.out; omega) (some ⟨wr.heap.size, 0, none⟩) 512 (padd b j) (padd_length b j) rf (fun a e => by
          injection e with e; subst e
          have := HKR.out.lt
          dsimp only; omega)
        rw [wleft_succ left j (by omega), Int.natCast_add] at HW
        have HW := Lib.hid HW
        have HSZ := Lib.hid hb.size
        have T2 : Hid (Tch (grow S w wr) wr w2) := Tch.of_below hb
        have HSR := Lib.hid HT.out.size
        clear hf hb rf k2 hl0 hl3 hne hcl
        go_wp2_with fail
        with_reducible refine HW.out.mono ?_
        rintro e w3 ⟨rfl, ⟨W3, cw3, b3, cb3, k3⟩, t3⟩
        have t23 := T2.out.trans t3 (fun i _ h => h)
        have t03 := HT.out.regrow t23
        have k3' : Dk (grow S w w3) w3 g h c W3 cw3 bs (vs ++ [⟨p + j, b3, cb3, padd b j⟩]) (wleft left (j + 1)) false := k3.more fun i hi => by
          have h1 := HSR.out
          have h2 := HSZ.out
          have h3 := t3.size
          rcases (k3.foot hi).1 with (h | h) | h
          · exact .inl h
          · exact .inr ⟨h.1, by omega⟩
          · exact .inr ⟨by omega, h.2⟩
        have e3 : (vs ++ [(⟨p + j, b3, cb3, padd b j⟩ : Wr)]).map Wr.two = ws.map Wr.two ++ puts p b (j + 1) := by rw [List.map_append, HVS.out, puts_succ, List.append_assoc]; rfl
        have K3 := Lib.hid k3'
        have E3 := Lib.hid e3
        have T3 := Lib.hid t03
        clear k3 t3 t23 t03 k3' e3 HW T2
        go_wp2
        go_roundw
        case rel => exact ⟨j + 1, by omega, by go_num, ⟨W3, cw3, _, K3.out, E3.out⟩, T3.out⟩
        case measure => simp [intOf]; omega
      · obtain rfl : j = m := by omega
        have hbad : off = true ∨ wleft left j = 0 := by
          cases off
          · right
            have := hmlt rfl hlt
            unfold wleft; split <;> omega
          · exact .inl rfl
        have HW := dwrite_bad k2 (by have := HNN.out; omega) hbad (p + j) (by have := HNN.out; omega) (some ⟨wr.heap.size, 0, none⟩) 512
        rw [Int.natCast_add] at HW
        have HW := Lib.hid HW
        have HSZ := Lib.hid hb.size
        have T2 : Hid (Tch (grow S w wr) wr w2) := Tch.of_below hb
        clear hf hb rf k2 hne hcl
        go_wp2_with fail
        with_reducible refine HW.out.mono ?_
        rintro e w3 ⟨rfl, k3, t3⟩
        have t03 := HT.out.regrow (T2.out.trans t3 (fun i _ h => h))
        have k3' : Dk (grow S w w3) w3 g h c W' cw' bs vs (wleft left j) true := by
          exact k3.more fun i hi => by
            have h2 := HSZ.out
            have h3 := t3.size
            rcases (k3.foot hi).1 with h | h
            · exact .inl h
            · exact .inr ⟨h.1, by omega⟩
        have K3 := Lib.hid k3'
        have T3 := Lib.hid t03
        clear k3 t3 t03 k3' HW T2
        go_wp2
        go_ret
        exact ⟨rfl, ⟨W', cw', _, K3.out, HVS.out⟩, T3.out⟩
    · obtain rfl : j = K := by omega
      obtain rfl : m = j := by omega
      have K3 := Lib.hid kr
      have T3 := Lib.hid ht
      have HVS := Lib.hid hvs
      clear kr ht hvs k0
      go_wp2
      go_ret
      exact ⟨rfl, ⟨W', cw', _, K3.out, HVS.out⟩, T3.out⟩

set_option maxRecDepth 100000 in
set_option maxHeartbeats 400000 in
theorem ewrite_arg (k : Dk S w g h c W cw bs ws left off) (N : Nat) (hN : bs.length = 512 * N) (hN2 : N ≤ 128) (p : Int) (A : Option Addr) (n cA : Nat) (hn : n ≤ 9223372036854775807) (hfit : p < 0 ∨ (N : Int) < p + need n) :
    Calls Try.prog 11 #[.pointer (some ⟨g, 0, none⟩), .int .i64 p, .slice A n cA] w fun e w' => e = .returned (.iface 54 (.int .i64 1)) ∧ w = w' := by
  have HF := Lib.hid (efits_no k N hN hN2 p n hn hfit)
  clear k hN hfit
  go_enter Try.func11, Try.ntmps11
  go_wp2_with fail
  with_reducible refine HF.out.mono ?_
  rintro e w1 ⟨rfl, rfl⟩
  go_wp2
  go_ret
  exact ⟨rfl, rfl⟩
end
end Go.Proofs.Ytkddcfaomaphaaa
