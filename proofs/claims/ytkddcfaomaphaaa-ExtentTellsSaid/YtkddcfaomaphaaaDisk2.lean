/- The contract of a disk's Write. -/
import Derived.Test.YtkddcfaomaphaaaDisk1
import Derived.Great.BuildSlice
namespace Go.Proofs.Ytkddcfaomaphaaa
open Go.RowKit

theorem wr_inf : (Try.prog.info? 61).map (fun i => (i.zero, i.size, i.bytes)) = some (some (.agg #[.int .i64 0, .slice none 0 0]), 2, 32) := by kernel_rfl

/-- A slice of one write, made anew. -/
theorem run_one (w : World) (s : Int) (A : Option Addr) (n c : Nat) : (Instr.buildSlice 51 1 #[(0, .agg #[.int .i64 s, .slice A n c])]).run Try.prog w = .ok (.slice (some ⟨w.heap.size, 0, none⟩) 1 1) (w.alloc (.cells #[.int .i64 s, .slice A n c] 61)) := by
  obtain ⟨i0, hi, hz0, hz1, hz2⟩ := info_parts wr_inf
  refine run_buildSlice w 51 61 1 _ _ i0 _ Try.underlying51 hi hz0 (by omega) (by omega) ?_
  rw [hz1]
  have e : Array.range (1 * 2) = #[0, 1] := by decide
  rw [e]
  simp [Instr.fill, Value.cells]

section
variable {S : Nat → Prop} {w w3 w4 : World} {g h c : Nat} {W : Option Addr} {cw : Nat} {bs : List UInt8} {ws : List Wr} {left : Int} {off : Bool}
/-- One write more waits. -/
theorem Dk.pushed (k : Dk S w g h c W cw bs ws left off) (hb : Below w.heap.size w w3) (x : Wr) (hx1 : x.s * 512 + 512 ≤ bs.length) (hx2 : w.heap.size ≤ x.b) (hx3 : x.d.length = 512) (hx4 : Fil w3 x.b x.d) (v : Value)
    (hown : w4.ownsRow 0 61 2 v (ws.length + 1) (flat (ws ++ [x]))) (hgr : w3.grownBy w4 (Value.slice W ws.length cw).ownBlock) (hat : v.ownBlock = (Value.slice W ws.length cw).ownBlock ∨ v.ownBlock = some w3.heap.size) :
    w4.cell? ⟨g, 1, none⟩ = some (.slice W ws.length cw) ∧ w4.frozen? ⟨g, 1, none⟩ = false ∧ ∃ W' cw', v = .slice W' (ws.length + 1) cw' ∧ Dk (grow S w (w4.setCell ⟨g, 1, none⟩ v)) (w4.setCell ⟨g, 1, none⟩ v) g h c W' cw' bs (ws ++ [x]) left off ∧ Tch S w (w4.setCell ⟨g, 1, none⟩ v) := by
  have k3 := k.below hb
  have hne : ∀ j, j < w3.heap.size → (∀ a, W = some a → j ≠ a.block) → w4.heap[j]? = w3.heap[j]? := fun j hj hn => hgr.block j hj (fun e => by
    rcases W with _ | a
    · simp [Value.ownBlock] at e
    · simp [Value.ownBlock] at e
      exact hn a rfl e)
  have hg4 : w4.heap[g]? = w3.heap[g]? := hne g k3.lt (fun a e => (k3.wg e).1.symm)
  have hs4 : (w4.setCell ⟨g, 1, none⟩ v).heap.size = w4.heap.size := by simp [World.setCell]
  have hoth : ∀ j, j ≠ g → (w4.setCell ⟨g, 1, none⟩ v).heap[j]? = w4.heap[j]? := fun j hj => Below.heap_setCell _ _ _ _ hj
  obtain ⟨gw, cw', cur, hv, _, hrow, _⟩ : ∃ g' cap cur, v = .slice (some ⟨g', 0, none⟩) (ws.length + 1) cap ∧ 0 ≤ g' ∧ w4.heap[g']? = some (.cells cur 61 (0, 0)) ∧ ws.length + 1 ≤ cap := by
    rcases hown.2 with ⟨_, h0⟩ | ⟨g', cap, cur, h1, h2, h3, h4, _⟩
    · omega
    · exact ⟨g', cap, cur, h1, h2, h3, h4⟩
  have hgwlt := heap_lt hrow
  have hgwg : gw ≠ g := type_ne hrow (hg4.trans k3.obj) (by decide)
  subst hv
  refine ⟨(World.cell?_of_block (a := ⟨g, 1, none⟩) hg4).trans k3.c1, (World.frozen?_of_block (a := ⟨g, 1, none⟩) hg4).trans (k3.thaw 1), some ⟨gw, 0, none⟩, cw', rfl, ⟨?_, ?_, ?_, ?_, .inl k.sg, .inl k.sh, ?_, ?_⟩, ?_⟩
  · rw [heap_setCell_same w4 g 1 _ _ _ (hg4.trans k3.obj), List.length_append]
    rfl
  · refine own_keep k3.own fun j hj => ?_
    injection hj with hj
    subst hj
    rw [hoth _ k3.gh.symm]
    exact hne _ k3.hlt (fun a e => (k3.wg e).2.1.symm)
  · rw [List.length_append]
    refine own_keep hown fun j hj => ?_
    injection hj with hj
    subst hj
    exact hoth _ hgwg
  · intro y hy
    rcases List.mem_append.1 hy with hy | hy
    · obtain ⟨h1, h2, h3, h4⟩ := k3.row y hy
      refine ⟨h1, h2, h3, h4.keep ?_⟩
      rw [hoth _ (k3.xg hy)]
      exact hne _ (k3.xlt hy) (fun a e => (k3.wg e).2.2 y hy)
    · obtain rfl : y = x := by simpa using hy
      have hlt := hx4.lt
      have hyg : y.b ≠ g := fun e => by have := k.lt; omega
      refine ⟨hx1, fun e => by have := k.hlt; omega, hx3, hx4.keep ?_⟩
      rw [hoth _ hyg]
      refine hne _ hlt (fun a e => ?_)
      have := k.wlt e
      omega
  · intro a e
    injection e with e
    subst e
    show grow S w _ gw
    rcases hat with h1 | h1
    · left
      rcases W with _ | a
      · simp [Value.ownBlock] at h1
      · simp [Value.ownBlock] at h1
        rw [h1]
        exact k.sw a rfl
    · right
      simp [Value.ownBlock] at h1
      rw [hs4, h1]
      exact ⟨hb.size, by omega⟩
  · intro y hy
    rcases List.mem_append.1 hy with hy | hy
    · exact .inl (k.sx y hy)
    · obtain rfl : y = x := by simpa using hy
      right
      rw [hs4]
      have := hx4.lt
      have := hgr.size
      exact ⟨hx2, by omega⟩
  · refine ((Tch.of_below (S := S) hb).trans (Tch.grown (S := S) hgr fun j hj => ?_) (fun _ _ h => h)).trans (Tch.set (S := S) w4 ⟨g, 1, none⟩ _ k.sg) (fun _ _ h => h)
    rcases W with _ | a
    · simp [Value.ownBlock] at hj
    · simp [Value.ownBlock] at hj
      rw [← hj]
      exact k.sw a rfl

set_option maxRecDepth 100000 in
set_option maxHeartbeats 1000000 in
theorem dwrite_neg (k : Dk S w g h c W cw bs ws left false) (hl : bs.length ≤ 100000) (hws : ws.length ≤ 1000000) (hleft : left < 0) (i : Nat) (hi : i * 512 + 512 ≤ bs.length) (A : Option Addr) (cA : Nat) (d : List UInt8) (hd : d.length = 512) (hr : Rd w w.heap.size A 512 d) :
    Calls Try.prog 25 #[.pointer (some ⟨g, 0, none⟩), .int .i64 (i : Int), .slice A 512 cA] w fun e w' => e = .returned .nilIface ∧ (∃ W' cw' b cb, Dk (grow S w w') w' g h c W' cw' bs (ws ++ [⟨i, b, cb, d⟩]) left false) ∧ Tch S w w' := by
  have hA : A = none → cA = 0 := fun e => by
    obtain ⟨_, _, e1, _⟩ := hr.2 (by omega)
    rw [e] at e1; cases e1
  have HH := Lib.hid (dhas_yes k hl i hi)
  have c2 := k.c2
  have c3 := k.c3
  have hle0 : (left == 0) = false := by rw [beq_eq_false_iff_ne]; omega
  obtain ⟨w0, hw0⟩ : ∃ w0, w.drew = w0 := ⟨_, rfl⟩
  have k0 : Dk S w0 g h c W cw bs ws left false := by rw [← hw0]; exact k.drew
  have hsz0 : w0.heap.size = w.heap.size := by rw [← hw0]; rfl
  have r0 : Rd w0 w0.heap.size A d.length d := by rw [hd, hsz0, ← hw0]; exact hr.drew
  have hb0 : Below w.heap.size w w0 := by rw [← hw0]; exact (Below.refl _ _).drew
  have HC := sclone_any A cA w0.heap.size d w0 r0 (Nat.le_refl _) hA (by omega)
  rw [hd] at HC
  have HC := Lib.hid HC
  have K0 := Lib.hid k0
  have HW0 := Lib.hid hw0
  have HB0 := Lib.hid hb0
  have HD := Lib.hid hd
  have HSZ := Lib.hid hsz0
  clear hw0 k0 r0 hb0 hd k hr hA hsz0
  go_enter Try.func25, Try.ntmps25
  go_wp2_with fail
  refine HH.out.mono ?_
  rintro e w1 ⟨rfl, rfl⟩
  go_wp2_with fail
  refine wp_region_tail w0.heap.size [([0, 1, 2, 3, 4, 5, 6], 7), ([8], 9)] [] [10, 11, 12, 13] (by kernel_rfl) (by kernel_rfl) (by kernel_rfl) (fun _ _ _ _ _ h => h) ?_
  rw [HW0.out]
  clear c2 c3 hle0
  have q0 : ∀ x : LaterB w0.heap.size w0, x.val.cell? ⟨g, 1, none⟩ = some (.slice W ws.length cw) := fun x => (x.ext.cell (p := ⟨g, 1, none⟩) K0.out.lt).trans K0.out.c1
  refine tail_cons (l := ?seg1) ?hseg1 ?_
  case hseg1 => simp only [pick, List.getElem?_toArray, List.getElem?_cons_succ, List.getElem?_cons_zero]; rfl
  repeat (go_big_quiet_step (fail))
  refine wpQuiet_nil ?_
  clear q0
  refine tail_call (vs := #[.slice A 512 cA]) Try.call31 rfl rfl rfl (R := fun r w' => ∃ b cb, r = .slice (some ⟨b, 0, none⟩) 512 cb ∧ w0.heap.size ≤ b ∧ Fil w' b d) (HC.out.mono ?_) w0.heap.size (Nat.le_refl _) ?_
  · rintro e w' ⟨A', c', rfl, ho, hb⟩
    rw [HD.out] at ho
    obtain ⟨b, cb, e1, _, _⟩ := own_rd ho (by omega)
    injection e1 with e1 _ e3
    subst e1 e3
    exact ⟨_, by rw [HD.out], hb, b, c', rfl, (ho.lt b rfl).1, Fil.of_own ho⟩
  rintro r w1 hb1 ⟨b, cb, rfl, hbb, hfil⟩
  refine tail_cons (l := ?seg2) ?hseg2 ?_
  case hseg2 => simp only [pick, List.getElem?_toArray, List.getElem?_cons_succ, List.getElem?_cons_zero]; rfl
  simp only [Act.put, List.setIfInBounds_toArray, List.set_cons_zero, List.set_cons_succ]
  repeat (go_big_quiet_step (fail))
  refine wpQuiet_nil ?_
  obtain ⟨w3, hw3⟩ : ∃ w3, w1.alloc (.cells #[.int .i64 (i : Int), .slice (some ⟨b, 0, none⟩) 512 cb] 61) = w3 := ⟨_, rfl⟩
  have hro := run_one w1 (i : Int) (some ⟨b, 0, none⟩) 512 cb
  rw [hw3] at hro
  have hb13 : Below w1.heap.size w1 w3 := by rw [← hw3]; exact (Below.refl _ _).alloc (Nat.le_refl _) _
  have hn3 : w3.heap[w1.heap.size]? = some (.cells #[.int .i64 (i : Int), .slice (some ⟨b, 0, none⟩) 512 cb] 61 (0, 0)) := by rw [← hw3]; exact heap_alloc_new w1 _
  have hb3 : Below w0.heap.size w0 w3 := hb1.trans (hb13.mono hb1.size)
  refine tail_val (w1 := w3) (v := .slice (some ⟨w1.heap.size, 0, none⟩) 1 1) rfl rfl ?rv1 (hb13.mono hb1.size) ?_
  case rv1 => exact bslice_run rfl rfl hro
  refine ⟨w0.heap.size, Nat.le_refl _, ?_⟩
  refine tail_last (l := ?la3) (t := ?tl3) ?hla3 ?htl3 ?_
  case hla3 => rfl
  case htl3 => simp only [pick, List.getElem?_toArray, List.getElem?_cons_succ, List.getElem?_cons_zero]; rfl
  refine wpQuiet_nil ?_
  simp only [Act.put, List.setIfInBounds_toArray]
  obtain ⟨i0, hi0, hz0, hz1, hz2⟩ := info_parts wr_inf
  have hwcap := K0.out.wcap
  have hnew : ∀ j u, [Value.int .i64 (i : Int), .slice (some ⟨b, 0, none⟩) 512 cb][j]? = some u → w3.cell? ((⟨w1.heap.size, 0, none⟩ : Addr).add j) = some u := by
    intro j u hu
    have e : (⟨w1.heap.size, 0, none⟩ : Addr).add j = ⟨w1.heap.size, j, none⟩ := by unfold Addr.add; split <;> simp_all
    rw [e, cell_of_row w3 _ j _ _ (0, 0) hn3]
    simpa using hu
  have hone : ∀ u ∈ [Value.int .i64 (i : Int), .slice (some ⟨b, 0, none⟩) 512 cb], u.oneCell' = true := by
    intro u hu
    simp at hu
    rcases hu with rfl | rfl <;> rfl
  have k3 := K0.out.below hb3
  refine wpList_append_own_at w3 rfl (.tmp 46) (.tmp 51) 51 rfl 0 61 i0 _ 2 32 Try.underlying51 hi0 hz0 hz1 hz2 rfl (by decide) (.slice W ws.length cw) ws.length (flat ws) rfl k3.wai ⟨w1.heap.size, 0, none⟩ 1 1 _ rfl rfl hnew hone (by unfold maxLen; omega) (by omega) (Nat.zero_le _) ?_
  intro v4 w4 own4 gr4 _ at4
  have own4' : w4.ownsRow 0 61 2 v4 (ws.length + 1) (flat (ws ++ [⟨i, b, cb, d⟩])) := by rw [flat_append]; exact own4
  obtain ⟨p1, p2, W', cw', rfl, p3, p4⟩ := K0.out.pushed hb3 ⟨i, b, cb, d⟩ hi hbb HD.out (hfil.keep (hb13.block b hfil.lt)) v4 own4' gr4 at4
  have P3 := Lib.hid p3
  have P4 := Lib.hid p4
  clear p3 p4 own4 own4' gr4 at4 k3 hone hnew hi0 hz0 hz1 hz2 hn3 hro hw3
  go_wp2
  go_ret
  refine ⟨rfl, ⟨W', cw', b, cb, P3.out.more fun j hj => ?_⟩, (Tch.of_below (S := S) HB0.out).trans P4.out (fun _ _ h => h)⟩
  rcases (P3.out.foot hj).1 with h1 | h1
  · exact .inl h1
  · exact .inr ⟨HSZ.out ▸ h1.1, h1.2⟩
end
end Go.Proofs.Ytkddcfaomaphaaa
