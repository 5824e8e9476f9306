/- The contracts of a disk's calls that are left: Of, Cut, Write, Read and Flush where they tell an error, or a Cut is in force. -/
import Derived.Test.YtkddcfaomaphaaaDisk4
namespace Go.Proofs.Ytkddcfaomaphaaa
open Go.RowKit

section
variable {S : Nat → Prop} {w : World} {g h c : Nat} {W : Option Addr} {cw : Nat} {bs : List UInt8} {ws : List Wr} {left : Int} {off : Bool}
set_option maxRecDepth 100000 in
set_option maxHeartbeats 1000000 in
theorem dwrite_pos (k : Dk S w g h c W cw bs ws left false) (hl : bs.length ≤ 100000) (hws : ws.length ≤ 1000000) (hleft : 0 < left) (hleft2 : left ≤ 9223372036854775807) (i : Nat) (hi : i * 512 + 512 ≤ bs.length) (A : Option Addr) (cA : Nat) (d : List UInt8) (hd : d.length = 512) (hr : Rd w w.heap.size A 512 d) (hAg : ∀ a, A = some a → a.block ≠ g) :
    Calls Try.prog 25 #[.pointer (some ⟨g, 0, none⟩), .int .i64 (i : Int), .slice A 512 cA] w fun e w' => e = .returned .nilIface ∧ (∃ W' cw' b cb, Dk (grow S w w') w' g h c W' cw' bs (ws ++ [⟨i, b, cb, d⟩]) (left - 1) false) ∧ Tch S w w' := by
  have hA : A = none → cA = 0 := fun e => by
    obtain ⟨_, _, e1, _⟩ := hr.2 (by omega)
    rw [e] at e1; cases e1
  have HH := Lib.hid (dhas_yes k hl i hi)
  have c2 := k.c2
  have c3 := k.c3
  have hle0 : (left == 0) = false := by rw [beq_eq_false_iff_ne]; omega
  have f2 := k.thaw 2
  obtain ⟨w0, hw0⟩ : ∃ w0, (w.setCell ⟨g, 2, none⟩ (.int .i64 (left - 1))).drew = w0 := ⟨_, rfl⟩
  have k0 : Dk S w0 g h c W cw bs ws (left - 1) false := by rw [← hw0]; exact (k.set2 (left - 1)).drew
  have hsz0 : w0.heap.size = w.heap.size := by rw [← hw0]; simp [World.setCell]
  have hb0 : Tch (fun j => j = g) w w0 := by rw [← hw0]; exact (Tch.set (S := fun j => j = g) w ⟨g, 2, none⟩ _ rfl).drew
  have r0 : Rd w0 w0.heap.size A d.length d := by rw [hd]; exact hr.tch hb0 hAg
  have HC := sclone_any A cA w0.heap.size d w0 r0 (Nat.le_refl _) hA (by omega)
  rw [hd] at HC
  have HC := Lib.hid HC
  have K0 := Lib.hid k0
  have HW0 := Lib.hid hw0
  have HB0 : Hid (Tch S w w0) := ⟨hb0.os, hb0.tape, hb0.output, hb0.size, fun j hj hn => hb0.block j hj (fun e => hn (by rw [e]; exact k.sg))⟩
  have HD := Lib.hid hd
  have HSZ := Lib.hid hsz0
  clear hw0 k0 r0 hb0 hd k hr hA hsz0 hAg
  go_enter Try.func25, Try.ntmps25
  go_wp2_with fail
  refine HH.out.mono ?_
  rintro e w1 ⟨rfl, rfl⟩
  go_wp2_with fail
  refine wp_region_tail w0.heap.size [([0, 1, 2, 3, 4, 5, 6], 7), ([8], 9)] [] [10, 11, 12, 13] (by kernel_rfl) (by kernel_rfl) (by kernel_rfl) (fun _ _ _ _ _ h => h) ?_
  rw [HW0.out]
  clear c2 c3 hle0 f2
  have q0 : ∀ x : LaterB w0.heap.size w0, x.val.cell? ⟨g, 1, none⟩ = some (.slice W ws.length cw) := fun x => (x.ext.cell (p := ⟨g, 1, none⟩) K0.out.lt).trans K0.out.c1
  refine tail_cons (l := ?seg1) ?hseg1 ?_
  case hseg1 => simp only [pick, List.getElem?_toArray, List.getElem?_cons_succ, List.getElem?_cons_zero]; rfl
  repeat (go_big_quiet_step (fail))
  refine wpQuiet_nil ?_
  clear q0
  refine tail_call (vs := #[.slice A 512 cA]) Try.call31 rfl rfl rfl (R := fun r w' => ∃ b cb, r = .slice (some ⟨b, 0, none⟩) 512 cb ∧ w0.heap.size ≤ b ∧ Fil w' b d) (HC.out.mono ?_) w0.heap.size (Nat.le_refl _) ?_
  · rintro e w' ⟨A', c', rfl, ho, hb⟩
    rw [HD.out] at ho
    obtain ⟨b, cb, e1, _, _⟩ := own_rd ho (by omega)
    injection e1 with e1 _ e3
    subst e1 e3
    exact ⟨_, by rw [HD.out], hb, b, c', rfl, (ho.lt b rfl).1, Fil.of_own ho⟩
  rintro r w1 hb1 ⟨b, cb, rfl, hbb, hfil⟩
  refine tail_cons (l := ?seg2) ?hseg2 ?_
  case hseg2 => simp only [pick, List.getElem?_toArray, List.getElem?_cons_succ, List.getElem?_cons_zero]; rfl
  simp only [Act.put, List.setIfInBounds_toArray, List.set_cons_zero, List.set_cons_succ]
  repeat (go_big_quiet_step (fail))
  refine wpQuiet_nil ?_
  obtain ⟨w3, hw3⟩ : ∃ w3, w1.alloc (.cells #[.int .i64 (i : Int), .slice (some ⟨b, 0, none⟩) 512 cb] 61) = w3 := ⟨_, rfl⟩
  have hro := run_one w1 (i : Int) (some ⟨b, 0, none⟩) 512 cb
  rw [hw3] at hro
  have hb13 : Below w1.heap.size w1 w3 := by rw [← hw3]; exact (Below.refl _ _).alloc (Nat.le_refl _) _
  have hn3 : w3.heap[w1.heap.size]? = some (.cells #[.int .i64 (i : Int), .slice (some ⟨b, 0, none⟩) 512 cb] 61 (0, 0)) := by rw [← hw3]; exact heap_alloc_new w1 _
  have hb3 : Below w0.heap.size w0 w3 := hb1.trans (hb13.mono hb1.size)
  refine tail_val (w1 := w3) (v := .slice (some ⟨w1.heap.size, 0, none⟩) 1 1) rfl rfl ?rv1 (hb13.mono hb1.size) ?_
  case rv1 => exact bslice_run rfl rfl hro
  refine ⟨w0.heap.size, Nat.le_refl _, ?_⟩
  refine tail_last (l := ?la3) (t := ?tl3) ?hla3 ?htl3 ?_
  case hla3 => rfl
  case htl3 => simp only [pick, List.getElem?_toArray, List.getElem?_cons_succ, List.getElem?_cons_zero]; rfl
  refine wpQuiet_nil ?_
  simp only [Act.put, List.setIfInBounds_toArray]
  obtain ⟨i0, hi0, hz0, hz1, hz2⟩ := info_parts wr_inf
  have hwcap := K0.out.wcap
  have hnew : ∀ j u, [Value.int .i64 (i : Int), .slice (some ⟨b, 0, none⟩) 512 cb][j]? = some u → w3.cell? ((⟨w1.heap.size, 0, none⟩ : Addr).add j) = some u := by
    intro j u hu
    have e : (⟨w1.heap.size, 0, none⟩ : Addr).add j = ⟨w1.heap.size, j, none⟩ := by unfold Addr.add; split <;> simp_all
    rw [e, cell_of_row w3 _ j _ _ (0, 0) hn3]
    simpa using hu
  have hone : ∀ u ∈ [Value.int .i64 (i : Int), .slice (some ⟨b, 0, none⟩) 512 cb], u.oneCell' = true := by
    intro u hu
    simp at hu
    rcases hu with rfl | rfl <;> rfl
  have k3 := K0.out.below hb3
  refine wpList_append_own_at w3 rfl (.tmp 46) (.tmp 51) 51 rfl 0 61 i0 _ 2 32 Try.underlying51 hi0 hz0 hz1 hz2 rfl (by decide) (.slice W ws.length cw) ws.length (flat ws) rfl k3.wai ⟨w1.heap.size, 0, none⟩ 1 1 _ rfl rfl hnew hone (by unfold maxLen; omega) (by omega) (Nat.zero_le _) ?_
  intro v4 w4 own4 gr4 _ at4
  have own4' : w4.ownsRow 0 61 2 v4 (ws.length + 1) (flat (ws ++ [⟨i, b, cb, d⟩])) := by rw [flat_append]; exact own4
  obtain ⟨p1, p2, W', cw', rfl, p3, p4⟩ := K0.out.pushed hb3 ⟨i, b, cb, d⟩ hi hbb HD.out (hfil.keep (hb13.block b hfil.lt)) v4 own4' gr4 at4
  have P3 := Lib.hid p3
  have P4 := Lib.hid p4
  clear p3 p4 own4 own4' gr4 at4 k3 hone hnew hi0 hz0 hz1 hz2 hn3 hro hw3
  go_wp2
  go_ret
  refine ⟨rfl, ⟨W', cw', b, cb, P3.out.more fun j hj => ?_⟩, HB0.out.trans P4.out (fun _ _ h => h)⟩
  rcases (P3.out.foot hj).1 with h1 | h1
  · exact .inl h1
  · exact .inr ⟨by have := HSZ.out; omega, h1.2⟩

set_option maxRecDepth 100000 in
set_option maxHeartbeats 400000 in
theorem dwrite_arg (k : Dk S w g h c W cw bs ws left off) (hl : bs.length ≤ 100000) (i : Int) (A : Option Addr) (n cA : Nat) (hi : i < 0 ∨ (bs.length : Int) < i * 512 + 512 ∨ n ≠ 512) :
    Calls Try.prog 25 #[.pointer (some ⟨g, 0, none⟩), .int .i64 i, .slice A n cA] w fun e w' => e = .returned (.iface 54 (.int .i64 1)) ∧ w = w' := by
  by_cases h1 : i < 0 ∨ (bs.length : Int) < i * 512 + 512
  · have HH := Lib.hid (dhas_no k hl i h1)
    clear hi h1
    go_enter Try.func25, Try.ntmps25
    go_wp2_with fail
    with_reducible refine HH.out.mono ?_
    rintro e w1 ⟨rfl, rfl⟩
    go_wp2
    go_ret
    exact ⟨rfl, rfl⟩
  · obtain ⟨j, rfl⟩ : ∃ j : Nat, i = (j : Int) := ⟨i.toNat, by omega⟩
    have HH := Lib.hid (dhas_yes k hl j (by omega))
    have hq : ((n : Int) != 512) = true := by rw [bne_iff_ne]; omega
    clear hi h1
    go_enter Try.func25, Try.ntmps25
    go_wp2_with fail
    with_reducible refine HH.out.mono ?_
    rintro e w1 ⟨rfl, rfl⟩
    go_wp2
    go_ret
    exact ⟨rfl, rfl⟩

set_option maxRecDepth 100000 in
set_option maxHeartbeats 400000 in
theorem dwrite_off (k : Dk S w g h c W cw bs ws left true) (hl : bs.length ≤ 100000) (hleft : left ≠ 0) (i : Nat) (hi : i * 512 + 512 ≤ bs.length) (A : Option Addr) (cA : Nat) :
    Calls Try.prog 25 #[.pointer (some ⟨g, 0, none⟩), .int .i64 (i : Int), .slice A 512 cA] w fun e w' => e = .returned (.iface 54 (.int .i64 6)) ∧ w = w' := by
  have HH := Lib.hid (dhas_yes k hl i hi)
  have c2 := k.c2
  have c3 := k.c3
  have hle0 : (left == 0) = false := by rw [beq_eq_false_iff_ne]; exact hleft
  go_enter Try.func25, Try.ntmps25
  go_wp2_with fail
  with_reducible refine HH.out.mono ?_
  rintro e w1 ⟨rfl, rfl⟩
  go_wp2
  go_ret
  exact ⟨rfl, rfl⟩

set_option maxRecDepth 100000 in
set_option maxHeartbeats 400000 in
theorem dwrite_cut (k : Dk S w g h c W cw bs ws 0 off) (hl : bs.length ≤ 100000) (i : Nat) (hi : i * 512 + 512 ≤ bs.length) (A : Option Addr) (cA : Nat) :
    Calls Try.prog 25 #[.pointer (some ⟨g, 0, none⟩), .int .i64 (i : Int), .slice A 512 cA] w fun e w' => e = .returned (.iface 54 (.int .i64 6)) ∧ Dk S w' g h c W cw bs ws 0 true ∧ Tch S w w' := by
  have HH := Lib.hid (dhas_yes k hl i hi)
  have c2 := k.c2
  have c3 := k.c3
  have f3 := k.thaw 3
  have K1 := Lib.hid (k.set3 true)
  have T1 := Lib.hid (Tch.set (S := S) w ⟨g, 3, none⟩ (.bool true) k.sg)
  clear k
  go_enter Try.func25, Try.ntmps25
  go_wp2_with fail
  with_reducible refine HH.out.mono ?_
  rintro e w1 ⟨rfl, rfl⟩
  go_wp2
  go_ret
  exact ⟨rfl, K1.out, T1.out⟩

set_option maxRecDepth 100000 in
set_option maxHeartbeats 400000 in
theorem dread_arg (k : Dk S w g h c W cw bs ws left off) (hl : bs.length ≤ 100000) (i : Int) (hi : i < 0 ∨ (bs.length : Int) < i * 512 + 512) :
    Calls Try.prog 28 #[.pointer (some ⟨g, 0, none⟩), .int .i64 i] w fun e w' => e = .returned (.tuple #[.slice none 0 0, .iface 54 (.int .i64 1)]) ∧ w = w' := by
  have HH := Lib.hid (dhas_no k hl i hi)
  clear hi
  go_enter Try.func28, Try.ntmps28
  go_wp2_with fail
  with_reducible refine HH.out.mono ?_
  rintro e w1 ⟨rfl, rfl⟩
  go_wp2
  go_ret2
  exact ⟨rfl, rfl⟩

set_option maxRecDepth 100000 in
set_option maxHeartbeats 400000 in
theorem dread_off (k : Dk S w g h c W cw bs ws left true) (hl : bs.length ≤ 100000) (i : Nat) (hi : i * 512 + 512 ≤ bs.length) :
    Calls Try.prog 28 #[.pointer (some ⟨g, 0, none⟩), .int .i64 (i : Int)] w fun e w' => e = .returned (.tuple #[.slice none 0 0, .iface 54 (.int .i64 6)]) ∧ w = w' := by
  have HH := Lib.hid (dhas_yes k hl i hi)
  have c3 := k.c3
  go_enter Try.func28, Try.ntmps28
  go_wp2_with fail
  with_reducible refine HH.out.mono ?_
  rintro e w1 ⟨rfl, rfl⟩
  go_wp2
  go_ret2
  exact ⟨rfl, rfl⟩

set_option maxRecDepth 100000 in
set_option maxHeartbeats 400000 in
theorem dflush_off (k : Dk S w g h c W cw bs ws left true) :
    Calls Try.prog 20 #[.pointer (some ⟨g, 0, none⟩)] w fun e w' => e = .returned (.iface 54 (.int .i64 6)) ∧ w = w' := by
  have c3 := k.c3
  go_enter Try.func20, Try.ntmps20
  go_wp2
  go_ret
  exact ⟨rfl, rfl⟩

set_option maxRecDepth 100000 in
set_option maxHeartbeats 400000 in
theorem dcut_any (k : Dk S w g h c W cw bs ws left off) (n m : Int) (hm : (if n < 0 then -1 else n) = m) :
    Calls Try.prog 8 #[.pointer (some ⟨g, 0, none⟩), .int .i64 n] w fun e w' => e = .returned (.tuple #[]) ∧ Dk S w' g h c W cw bs ws m off ∧ Tch S w w' := by
  have c2 := k.c2
  have f2 := k.thaw 2
  have K1 := Lib.hid (k.set2 m)
  have T1 := Lib.hid (Tch.set (S := S) w ⟨g, 2, none⟩ (.int .i64 m) k.sg)
  clear k
  by_cases h0 : n < 0
  · obtain rfl : m = -1 := by rw [if_pos h0] at hm; exact hm.symm
    have e1 : (if n < -1 then (-1 : Int) else n) = -1 := by split <;> omega
    clear hm
    go_enter Try.func8, Try.ntmps8
    go_wp2
    go_end0
    exact ⟨rfl, K1.out, T1.out⟩
  · obtain rfl : n = m := by rw [if_neg h0] at hm; exact hm
    have e1 : ¬ n < -1 := by omega
    clear hm
    go_enter Try.func8, Try.ntmps8
    go_wp2
    go_end0
    exact ⟨rfl, K1.out, T1.out⟩
end
end Go.Proofs.Ytkddcfaomaphaaa
