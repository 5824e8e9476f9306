/- The contracts of the document's own disk: Write, NewDisk. -/
import Derived.Test.YtkddcfaomaphaaaRk3
namespace Go.Proofs.Ytkddcfaomaphaaa
open Go.RowKit

theorem wait_inf : (Try.prog.info? 64).map (fun i => (i.zero, i.size, i.bytes)) = some (some (.agg #[.int .i64 0, .slice none 0 0]), 2, 32) := by kernel_rfl
theorem sl_inf : (Try.prog.info? 22).map (fun i => (i.zero, i.size, i.bytes)) = some (some (.slice none 0 0), 1, 24) := by kernel_rfl

theorem int_v {a b : Int} (h : a = b) : Value.int .i64 a = .int .i64 b := by rw [h]

/-- A slice of no bytes, made anew; one of one write, one of one slice. -/
theorem run_none_ (w : World) : (Instr.buildSlice 22 0 #[]).run Try.prog w = .ok (.slice (some ⟨w.heap.size, 0, none⟩) 0 0) (w.alloc (.cells #[] 5)) := by
  obtain ⟨i0, hi, hz0, hz1, hz2⟩ := info_parts u8_inf
  have e : Array.range 0 = #[] := by decide
  simp [Instr.buildSlice, run_underlying Try.underlying22, sizeOf, typeInfo, hi, newRow, Instr.fill, e]
theorem run_onew (w : World) (s : Int) (A : Option Addr) (n c : Nat) : (Instr.buildSlice 41 1 #[(0, .agg #[.int .i64 s, .slice A n c])]).run Try.prog w = .ok (.slice (some ⟨w.heap.size, 0, none⟩) 1 1) (w.alloc (.cells #[.int .i64 s, .slice A n c] 64)) := by
  obtain ⟨i0, hi, hz0, hz1, hz2⟩ := info_parts wait_inf
  refine run_buildSlice w 41 64 1 _ _ i0 _ Try.underlying41 hi hz0 (by omega) (by omega) ?_
  rw [hz1]
  have e : Array.range (1 * 2) = #[0, 1] := by decide
  rw [e]
  simp [Instr.fill, Value.cells]
theorem run_ones (w : World) (A : Option Addr) (n c : Nat) : (Instr.buildSlice 40 1 #[(0, .slice A n c)]).run Try.prog w = .ok (.slice (some ⟨w.heap.size, 0, none⟩) 1 1) (w.alloc (.cells #[.slice A n c] 22)) := by
  obtain ⟨i0, hi, hz0, hz1, hz2⟩ := info_parts sl_inf
  refine run_buildSlice w 40 22 1 _ _ i0 _ Try.underlying40 hi hz0 (by omega) (by omega) ?_
  rw [hz1]
  have e : Array.range (1 * 1) = #[0] := by decide
  rw [e]
  simp [Instr.fill, Value.cells]

/-- append(own, src...) for bytes, at an operation ahead of the tail. -/
theorem tail_bytes {P : Program} {ops : Array Oper} {Q : Exit → Act → World → Prop} {i B : Nat} {o : Oper} {a : Act} {w : World} {K : Nat → Act → World → Prop} (d : Option Tmp) (s x : Operand) (t e : TypeId) (hoi : ops[i]? = some o) (hd : o.dst = d) (hw : Region.wanted o (yielded ops a.tmps) = true)
    (ho : o.op = .call { callee := .builtin .append, args := #[s, x], argTypes := #[t, t] }) (ht : P.underlying t = some (.slice e)) (hinfo : (P.info? e).map (fun i => (i.zero, i.size, i.bytes)) = some (some (.int .u8 0), 1, 1))
    (v : Value) (n : Nat) (bs : List UInt8) (hs : a.eval s = v) (hown : w.ownsRow B e 1 v n (bs.map bv)) (hB : B ≤ w.heap.size)
    (B2 : Nat) (A : Addr) (m c : Nat) (cs : List UInt8) (hx : a.eval x = .slice (some A) m c) (hr : Rd w B2 (some A) m cs) (hb : n + m ≤ 1000000)
    (h : ∀ v' w', w'.ownsRow B e 1 v' (n + m) ((bs ++ cs).map bv) → Below B w w' → ∃ B', B ≤ B' ∧ K B' (a.put d v') w') : wpOp P ops Q i (fun a'' w'' => Below B w w'' ∧ ∃ B', B ≤ B' ∧ K B' a'' w'') a w := by
  subst hd
  obtain ⟨i0, hi, hz0, hz1, hz2⟩ := info_parts hinfo
  unfold wpOp
  simp only [hoi]
  rw [if_pos hw]
  refine .inl (wp_append_own w s x t ho B e i0 (.int .u8 0) 1 1 ht hi hz0 hz1 hz2 rfl (by decide) v n _ hs hown A m c (cs.map bv) hx (by simp [hr.1]) (rd_cells hr) (bv_one cs) (by unfold maxLen; omega) (by omega) hB ?_)
  intro v' w' h1 h2 _
  have hb' : Below B w w' := (Below.refl _ _).grown h2 hB (fun k hk => (hown.lt k hk).1)
  exact ⟨hb', h v' w' (by simpa using h1) hb'⟩

section
variable {S : Nat → Prop} {w w3 w4 : World} {g : Nat} {L : Option Addr} {cl : Nat} {W : Option Addr} {cw : Nat} {ls ws : List Wr} {left : Int} {off : Bool}
/-- One write more waits. -/
theorem Rk.pushed (k : Rk S w g L cl W cw ls ws left off) (hb : Below w.heap.size w w3) (x : Wr) (hx1 : x.s < ls.length) (hx2 : w.heap.size ≤ x.b) (hx3 : x.d.length = 512) (hx4 : Fil w3 x.b x.d) (v : Value)
    (hown : w4.ownsRow 0 64 2 v (ws.length + 1) (flat (ws ++ [x]))) (hgr : w3.grownBy w4 (Value.slice W ws.length cw).ownBlock) (hat : v.ownBlock = (Value.slice W ws.length cw).ownBlock ∨ v.ownBlock = some w3.heap.size) :
    w4.cell? ⟨g, 1, none⟩ = some (.slice W ws.length cw) ∧ w4.frozen? ⟨g, 1, none⟩ = false ∧ ∃ W' cw', v = .slice W' (ws.length + 1) cw' ∧ Rk (grow S w (w4.setCell ⟨g, 1, none⟩ v)) (w4.setCell ⟨g, 1, none⟩ v) g L cl W' cw' ls (ws ++ [x]) left off ∧ Tch S w (w4.setCell ⟨g, 1, none⟩ v) := by
  have k3 := k.below hb
  have hne : ∀ j, j < w3.heap.size → (∀ a, W = some a → j ≠ a.block) → w4.heap[j]? = w3.heap[j]? := fun j hj hn => hgr.block j hj (fun e => by
    rcases W with _ | a
    · simp [Value.ownBlock] at e
    · simp [Value.ownBlock] at e
      exact hn a rfl e)
  have hg4 : w4.heap[g]? = w3.heap[g]? := hne g k3.lt (fun a e => (k3.wg e).1.symm)
  have hs4 : (w4.setCell ⟨g, 1, none⟩ v).heap.size = w4.heap.size := by simp [World.setCell]
  have hoth : ∀ j, j ≠ g → (w4.setCell ⟨g, 1, none⟩ v).heap[j]? = w4.heap[j]? := fun j hj => Below.heap_setCell _ _ _ _ hj
  obtain ⟨gw, cw', cur, hv, _, hrow, _⟩ : ∃ g' cap cur, v = .slice (some ⟨g', 0, none⟩) (ws.length + 1) cap ∧ 0 ≤ g' ∧ w4.heap[g']? = some (.cells cur 64 (0, 0)) ∧ ws.length + 1 ≤ cap := by
    rcases hown.2 with ⟨_, h0⟩ | ⟨g', cap, cur, h1, h2, h3, h4, _⟩
    · omega
    · exact ⟨g', cap, cur, h1, h2, h3, h4⟩
  have hgwlt := heap_lt hrow
  have hgwg : gw ≠ g := type_ne hrow (hg4.trans k3.obj) (by decide)
  subst hv
  have keepx : ∀ y : Wr, y.d.length = 512 ∧ Fil w3 y.b y.d → y.b ≠ g → (∀ a, W = some a → y.b ≠ a.block) → y.d.length = 512 ∧ Fil (w4.setCell ⟨g, 1, none⟩ (.slice (some ⟨gw, 0, none⟩) (ws.length + 1) cw')) y.b y.d := fun y h1 h2 h3 =>
    ⟨h1.1, h1.2.keep ((hoth _ h2).trans (hne _ h1.2.lt h3))⟩
  refine ⟨(World.cell?_of_block (a := ⟨g, 1, none⟩) hg4).trans k3.c1, (World.frozen?_of_block (a := ⟨g, 1, none⟩) hg4).trans (k3.thaw 1), some ⟨gw, 0, none⟩, cw', rfl, ⟨?_, ?_, ?_, ?_, ?_, .inl k.sg, fun a e => .inl (k.sl a e), ?_, fun y hy => .inl (k.sx y hy), ?_⟩, ?_⟩
  · rw [heap_setCell_same w4 g 1 _ _ _ (hg4.trans k3.obj), List.length_append]
    rfl
  · refine own_keep k3.lrow fun j hj => ?_
    rcases L with _ | a
    · cases hj
    · injection hj with hj
      subst hj
      rw [hoth _ (k3.lg rfl).1]
      exact hne _ (k3.llt rfl) (fun a e => ((k3.lg rfl).2.2.2 a e).symm)
  · rw [List.length_append]
    refine own_keep hown fun j hj => ?_
    injection hj with hj
    subst hj
    exact hoth _ hgwg
  · intro y hy
    exact keepx y (k3.lf y hy) (k3.xg.1 y hy) (fun a e => (k3.wg e).2.1 y hy)
  · intro y hy
    rcases List.mem_append.1 hy with hy | hy
    · exact ⟨(k3.wf y hy).1, keepx y (k3.wf y hy).2 (k3.xg.2 y hy) (fun a e => (k3.wg e).2.2 y hy)⟩
    · obtain rfl : y = x := by simpa using hy
      refine ⟨hx1, keepx y ⟨hx3, hx4⟩ (fun e => by have := k.lt; omega) (fun a e h => ?_)⟩
      have := k.wlt e
      omega
  · intro a e
    injection e with e
    subst e
    show grow S w _ gw
    rcases hat with h1 | h1
    · left
      rcases W with _ | a
      · simp [Value.ownBlock] at h1
      · simp [Value.ownBlock] at h1
        rw [h1]
        exact k.sw a rfl
    · right
      simp [Value.ownBlock] at h1
      rw [hs4, h1]
      exact ⟨hb.size, by omega⟩
  · intro y hy
    rcases List.mem_append.1 hy with hy | hy
    · exact .inl (k.sy y hy)
    · obtain rfl : y = x := by simpa using hy
      right
      rw [hs4]
      have := hx4.lt
      have := hgr.size
      exact ⟨hx2, by omega⟩
  · refine ((Tch.of_below (S := S) hb).trans (Tch.grown (S := S) hgr fun j hj => ?_) (fun _ _ h => h)).trans (Tch.set (S := S) w4 ⟨g, 1, none⟩ _ k.sg) (fun _ _ h => h)
    rcases W with _ | a
    · simp [Value.ownBlock] at hj
    · simp [Value.ownBlock] at hj
      rw [← hj]
      exact k.sw a rfl

/-- One sector more stands. -/
theorem Rk.lpushed (k : Rk S w g L cl none 0 ls [] left off) (hb : Below w.heap.size w w3) (x : Wr) (hx2 : w.heap.size ≤ x.b) (hx3 : x.d.length = 512) (hx4 : Fil w3 x.b x.d) (v : Value)
    (hown : w4.ownsRow 0 22 1 v (ls.length + 1) ((ls ++ [x]).map Wr.one)) (hgr : w3.grownBy w4 (Value.slice L ls.length cl).ownBlock) (hat : v.ownBlock = (Value.slice L ls.length cl).ownBlock ∨ v.ownBlock = some w3.heap.size) :
    w4.cell? ⟨g, 0, none⟩ = some (.slice L ls.length cl) ∧ w4.frozen? ⟨g, 0, none⟩ = false ∧ ∃ L' cl', v = .slice L' (ls.length + 1) cl' ∧ Rk (grow S w (w4.setCell ⟨g, 0, none⟩ v)) (w4.setCell ⟨g, 0, none⟩ v) g L' cl' none 0 (ls ++ [x]) [] left off ∧ Tch S w (w4.setCell ⟨g, 0, none⟩ v) := by
  have k3 := k.below hb
  have hne : ∀ j, j < w3.heap.size → (∀ a, L = some a → j ≠ a.block) → w4.heap[j]? = w3.heap[j]? := fun j hj hn => hgr.block j hj (fun e => by
    rcases L with _ | a
    · simp [Value.ownBlock] at e
    · simp [Value.ownBlock] at e
      exact hn a rfl e)
  have hg4 : w4.heap[g]? = w3.heap[g]? := hne g k3.lt (fun a e => (k3.lg e).1.symm)
  have hs4 : (w4.setCell ⟨g, 0, none⟩ v).heap.size = w4.heap.size := by simp [World.setCell]
  have hoth : ∀ j, j ≠ g → (w4.setCell ⟨g, 0, none⟩ v).heap[j]? = w4.heap[j]? := fun j hj => Below.heap_setCell _ _ _ _ hj
  obtain ⟨gl, cl', cur, hv, _, hrow, _⟩ : ∃ g' cap cur, v = .slice (some ⟨g', 0, none⟩) (ls.length + 1) cap ∧ 0 ≤ g' ∧ w4.heap[g']? = some (.cells cur 22 (0, 0)) ∧ ls.length + 1 ≤ cap := by
    rcases hown.2 with ⟨_, h0⟩ | ⟨g', cap, cur, h1, h2, h3, h4, _⟩
    · omega
    · exact ⟨g', cap, cur, h1, h2, h3, h4⟩
  have hglt := heap_lt hrow
  have hgg : gl ≠ g := type_ne hrow (hg4.trans k3.obj) (by decide)
  subst hv
  have keepx : ∀ y : Wr, y.d.length = 512 ∧ Fil w3 y.b y.d → y.b ≠ g → (∀ a, L = some a → y.b ≠ a.block) → y.d.length = 512 ∧ Fil (w4.setCell ⟨g, 0, none⟩ (.slice (some ⟨gl, 0, none⟩) (ls.length + 1) cl')) y.b y.d := fun y h1 h2 h3 =>
    ⟨h1.1, h1.2.keep ((hoth _ h2).trans (hne _ h1.2.lt h3))⟩
  refine ⟨(World.cell?_of_block (a := ⟨g, 0, none⟩) hg4).trans k3.c0, (World.frozen?_of_block (a := ⟨g, 0, none⟩) hg4).trans (k3.thaw 0), some ⟨gl, 0, none⟩, cl', rfl, ⟨?_, ?_, World.ownsRow_nil _ _ _ _, ?_, (fun y hy => by cases hy), .inl k.sg, ?_, (fun a e => by cases e), ?_, (fun y hy => by cases hy)⟩, ?_⟩
  · rw [heap_setCell_same w4 g 0 _ _ _ (hg4.trans k3.obj), List.length_append]
    rfl
  · rw [List.length_append]
    refine own_keep hown fun j hj => ?_
    injection hj with hj
    subst hj
    exact hoth _ hgg
  · intro y hy
    rcases List.mem_append.1 hy with hy | hy
    · exact keepx y (k3.lf y hy) (k3.xg.1 y hy) (fun a e => (k3.lg e).2.1 y hy)
    · obtain rfl : y = x := by simpa using hy
      refine keepx y ⟨hx3, hx4⟩ (fun e => by have := k.lt; omega) (fun a e h => ?_)
      have := k.llt e
      omega
  · intro a e
    injection e with e
    subst e
    show grow S w _ gl
    rcases hat with h1 | h1
    · left
      rcases L with _ | a
      · simp [Value.ownBlock] at h1
      · simp [Value.ownBlock] at h1
        rw [h1]
        exact k.sl a rfl
    · right
      simp [Value.ownBlock] at h1
      rw [hs4, h1]
      exact ⟨hb.size, by omega⟩
  · intro y hy
    rcases List.mem_append.1 hy with hy | hy
    · exact .inl (k.sx y hy)
    · obtain rfl : y = x := by simpa using hy
      right
      rw [hs4]
      have := hx4.lt
      have := hgr.size
      exact ⟨hx2, by omega⟩
  · refine ((Tch.of_below (S := S) hb).trans (Tch.grown (S := S) hgr fun j hj => ?_) (fun _ _ h => h)).trans (Tch.set (S := S) w4 ⟨g, 0, none⟩ _ k.sg) (fun _ _ h => h)
    rcases L with _ | a
    · simp [Value.ownBlock] at hj
    · simp [Value.ownBlock] at hj
      rw [← hj]
      exact k.sl a rfl

set_option maxRecDepth 100000 in
set_option maxHeartbeats 400000 in
theorem rwrite_arg (k : Rk S w g L cl W cw ls ws left off) (i : Int) (A : Option Addr) (n cA : Nat) (hi : i < 0 ∨ (ls.length : Int) ≤ i ∨ n ≠ 512) :
    Calls Try.prog 27 #[.pointer (some ⟨g, 0, none⟩), .int .i64 i, .slice A n cA] w fun e w' => e = .returned (.int .i64 1) ∧ w = w' := by
  have c0 := k.c0
  clear k
  by_cases h0 : i < 0
  · clear hi
    go_enter Try.func27, Try.ntmps27
    go_wp2
    go_ret
    exact ⟨rfl, rfl⟩
  · by_cases h1 : (ls.length : Int) ≤ i
    · clear hi
      go_enter Try.func27, Try.ntmps27
      go_wp2
      go_ret
      exact ⟨rfl, rfl⟩
    · have hq : ((n : Int) != 512) = true := by rw [bne_iff_ne]; omega
      clear hi
      go_enter Try.func27, Try.ntmps27
      go_wp2
      go_ret
      exact ⟨rfl, rfl⟩

set_option maxRecDepth 100000 in
set_option maxHeartbeats 400000 in
theorem rwrite_off (k : Rk S w g L cl W cw ls ws left true) (hleft : left ≠ 0) (i : Nat) (hi : i < ls.length) (A : Option Addr) (cA : Nat) :
    Calls Try.prog 27 #[.pointer (some ⟨g, 0, none⟩), .int .i64 (i : Int), .slice A 512 cA] w fun e w' => e = .returned (.int .i64 6) ∧ w = w' := by
  have c0 := k.c0
  have c2 := k.c2
  have c3 := k.c3
  have hle0 : (left == 0) = false := by rw [beq_eq_false_iff_ne]; exact hleft
  have h0 : ¬ (i : Int) < 0 := by omega
  clear k
  go_enter Try.func27, Try.ntmps27
  go_wp2
  go_ret
  exact ⟨rfl, rfl⟩

set_option maxRecDepth 100000 in
set_option maxHeartbeats 400000 in
theorem rwrite_cut (k : Rk S w g L cl W cw ls ws 0 off) (i : Nat) (hi : i < ls.length) (A : Option Addr) (cA : Nat) :
    Calls Try.prog 27 #[.pointer (some ⟨g, 0, none⟩), .int .i64 (i : Int), .slice A 512 cA] w fun e w' => e = .returned (.int .i64 6) ∧ Rk S w' g L cl W cw ls ws 0 true ∧ Tch S w w' := by
  have c0 := k.c0
  have c2 := k.c2
  have c3 := k.c3
  have f2 := k.thaw 2
  have k1 := k.set2 true
  have d2 := k1.c2
  have K1 := Lib.hid k1
  have T1 := Lib.hid (Tch.set (S := S) w ⟨g, 2, none⟩ (.bool true) k.sg)
  have h0 : ¬ (i : Int) < 0 := by omega
  clear k k1
  go_enter Try.func27, Try.ntmps27
  go_wp2
  go_ret
  exact ⟨rfl, K1.out, T1.out⟩

set_option maxRecDepth 100000 in
set_option maxHeartbeats 1000000 in
theorem rwrite_neg (k : Rk S w g L cl W cw ls ws left false) (hws : ws.length ≤ 1000000) (hleft : left < 0) (i : Nat) (hi : i < ls.length) (A : Option Addr) (cA : Nat) (d : List UInt8) (hd : d.length = 512) (hr : Rd w w.heap.size A 512 d) (hAg : ∀ a, A = some a → a.block ≠ g) :
    Calls Try.prog 27 #[.pointer (some ⟨g, 0, none⟩), .int .i64 (i : Int), .slice A 512 cA] w fun e w' => e = .returned (.int .i64 0) ∧ (∃ W' cw' b cb, Rk (grow S w w') w' g L cl W' cw' ls (ws ++ [⟨i, b, cb, d⟩]) left false) ∧ Tch S w w' := by
  obtain ⟨bA, oA, rfl, hlA⟩ : ∃ b o, A = some ⟨b, o, none⟩ ∧ b < w.heap.size := by
    obtain ⟨b, o, e, h, _⟩ := hr.2 (by omega)
    exact ⟨b, o, e, h⟩
  have c0 := k.c0
  have c2 := k.c2
  have c3 := k.c3
  have h0 : ¬ (i : Int) < 0 := by omega
  have hle0 : (left == 0) = false := by rw [beq_eq_false_iff_ne]; omega
  obtain ⟨w0, hw0⟩ : ∃ w0, w.drew = w0 := ⟨_, rfl⟩
  have k0 : Rk S w0 g L cl W cw ls ws left false := by rw [← hw0]; exact k.drew
  have hsz0 : w0.heap.size = w.heap.size := by rw [← hw0]; rfl
  have r0 : Rd w0 w0.heap.size (some ⟨bA, oA, none⟩) 512 d := by rw [hsz0, ← hw0]; exact hr.drew
  have HT0 : Hid (Tch S w w0) := (show Tch S w w0 by rw [← hw0]; exact (Tch.refl _ _).drew)
  have hA : w0.heap[g]? = some (.cells #[.slice L ls.length cl, .slice W ws.length cw, .bool false, .int .i64 left] 43 (0, 0)) := k0.obj
  have K0 := Lib.hid k0
  have HW0 := Lib.hid hw0
  have HD := Lib.hid hd
  have HSZ := Lib.hid hsz0
  have R0 := Lib.hid r0
  clear hw0 k0 r0 hd k hr hsz0 hAg hlA hA
  go_enter Try.func27, Try.ntmps27
  go_wp2_with fail
  refine wp_region_tail w0.heap.size [([0, 1, 2, 3, 4, 5, 7], 6), ([], 8), ([9], 10)] [] [11, 12, 13, 14] (by kernel_rfl) (by kernel_rfl) (by kernel_rfl) (fun _ _ _ _ _ h => h) ?_
  rw [HW0.out]
  clear c0 c2 c3 hle0 hleft
  have q0 : ∀ x : LaterB w0.heap.size w0, x.val.cell? ⟨g, 1, none⟩ = some (.slice W ws.length cw) := fun x => (x.ext.cell (p := ⟨g, 1, none⟩) K0.out.lt).trans K0.out.c1
  refine tail_cons (l := ?seg1) ?hseg1 ?_
  case hseg1 => simp only [pick, List.getElem?_toArray, List.getElem?_cons_succ, List.getElem?_cons_zero]; rfl
  repeat (go_big_quiet_step (fail))
  refine wpQuiet_nil ?_
  clear q0
  refine tail_val2 (some 53) (w1 := w0.alloc (.cells #[] 5)) (v := .slice (some ⟨w0.heap.size, 0, none⟩) 0 0) rfl rfl rfl (bslice_run rfl rfl (run_none_ w0)) ((Below.refl _ _).alloc (Nat.le_refl _) _) ⟨w0.heap.size, Nat.le_refl _, ?_⟩
  simp only [Act.put, List.setIfInBounds_toArray, List.set_cons_zero, List.set_cons_succ]
  obtain ⟨w1, hw1⟩ : ∃ w1, w0.alloc (.cells #[] 5) = w1 := ⟨_, rfl⟩
  have own1 : w1.ownsRow w0.heap.size 5 1 (.slice (some ⟨w0.heap.size, 0, none⟩) 0 0) 0 (([] : List UInt8).map bv) := by rw [← hw1]; exact World.ownsRow_lit w0 _ 0 (Nat.le_refl _) (by unfold maxLen; omega) rfl
  have r1 : Rd w1 w0.heap.size (some ⟨bA, oA, none⟩) 512 d := by rw [← hw1]; exact R0.out.alloc (Nat.le_refl _) _
  have hb1 : Below w0.heap.size w0 w1 := by rw [← hw1]; exact (Below.refl _ _).alloc (Nat.le_refl _) _
  rw [hw1]
  clear hw1
  refine tail_cons (l := ?seg2) ?hseg2 ?_
  case hseg2 => rfl
  refine wpQuiet_nil ?_
  refine tail_bytes (some 55) (.tmp 53) (.tmp 54) 22 5 rfl rfl rfl rfl Try.underlying22 u8_inf (.slice (some ⟨w0.heap.size, 0, none⟩) 0 0) 0 [] rfl own1 hb1.size w0.heap.size ⟨bA, oA, none⟩ 512 cA d rfl r1 (by omega) ?_
  intro x2 w2 own2 hb2
  obtain ⟨b, cb, rfl, _, _⟩ := own_rd own2 (by omega)
  have own2' : w2.ownsRow w0.heap.size 5 1 (.slice (some ⟨b, 0, none⟩) 512 cb) 512 (d.map bv) := by simpa using own2
  have hbb := (own2'.lt b rfl).1
  have hfil := Fil.of_own own2'
  have hb02 : Below w0.heap.size w0 w2 := hb1.trans hb2
  refine ⟨w0.heap.size, Nat.le_refl _, ?_⟩
  clear own1 r1 hb1 own2 own2' hb2
  refine tail_cons (l := ?seg3) ?hseg3 ?_
  case hseg3 => simp only [pick, List.getElem?_toArray, List.getElem?_cons_succ, List.getElem?_cons_zero]; rfl
  simp only [Act.put, List.setIfInBounds_toArray, List.set_cons_zero, List.set_cons_succ, Nat.zero_add]
  repeat (go_big_quiet_step (fail))
  refine wpQuiet_nil ?_
  obtain ⟨w3, hw3⟩ : ∃ w3, w2.alloc (.cells #[.int .i64 (i : Int), .slice (some ⟨b, 0, none⟩) 512 cb] 64) = w3 := ⟨_, rfl⟩
  have hro := run_onew w2 (i : Int) (some ⟨b, 0, none⟩) 512 cb
  rw [hw3] at hro
  have hb23 : Below w2.heap.size w2 w3 := by rw [← hw3]; exact (Below.refl _ _).alloc (Nat.le_refl _) _
  have hn3 : w3.heap[w2.heap.size]? = some (.cells #[.int .i64 (i : Int), .slice (some ⟨b, 0, none⟩) 512 cb] 64 (0, 0)) := by rw [← hw3]; exact heap_alloc_new w2 _
  have hb3 : Below w0.heap.size w0 w3 := hb02.trans (hb23.mono hb02.size)
  refine tail_val2 (some 57) (w1 := w3) (v := .slice (some ⟨w2.heap.size, 0, none⟩) 1 1) rfl rfl rfl ?rv1 (hb23.mono hb02.size) ⟨w0.heap.size, Nat.le_refl _, ?_⟩
  case rv1 => exact bslice_run rfl rfl hro
  refine tail_last (l := ?la3) (t := ?tl3) ?hla3 ?htl3 ?_
  case hla3 => rfl
  case htl3 => simp only [pick, List.getElem?_toArray, List.getElem?_cons_succ, List.getElem?_cons_zero]; rfl
  refine wpQuiet_nil ?_
  simp only [Act.put, List.setIfInBounds_toArray, List.set_cons_zero, List.set_cons_succ]
  obtain ⟨i0, hi0, hz0, hz1, hz2⟩ := info_parts wait_inf
  have hwcap := K0.out.caps
  have hnew : ∀ j u, [Value.int .i64 (i : Int), .slice (some ⟨b, 0, none⟩) 512 cb][j]? = some u → w3.cell? ((⟨w2.heap.size, 0, none⟩ : Addr).add j) = some u := by
    intro j u hu
    have e : (⟨w2.heap.size, 0, none⟩ : Addr).add j = ⟨w2.heap.size, j, none⟩ := by unfold Addr.add; split <;> simp_all
    rw [e, cell_of_row w3 _ j _ _ (0, 0) hn3]
    simpa using hu
  have hone : ∀ u ∈ [Value.int .i64 (i : Int), .slice (some ⟨b, 0, none⟩) 512 cb], u.oneCell' = true := by
    intro u hu
    simp at hu
    rcases hu with rfl | rfl <;> rfl
  have k3 := K0.out.below hb3
  refine wpList_append_own_at w3 rfl (.tmp 51) (.tmp 57) 41 rfl 0 64 i0 _ 2 32 Try.underlying41 hi0 hz0 hz1 hz2 rfl (by decide) (.slice W ws.length cw) ws.length (flat ws) rfl k3.wrow ⟨w2.heap.size, 0, none⟩ 1 1 _ rfl rfl hnew hone (by unfold maxLen; omega) (by omega) (Nat.zero_le _) ?_
  intro v4 w4 own4 gr4 _ at4
  have own4' : w4.ownsRow 0 64 2 v4 (ws.length + 1) (flat (ws ++ [⟨i, b, cb, d⟩])) := by rw [flat_append]; exact own4
  obtain ⟨p1, p2, W', cw', rfl, p3, p4⟩ := K0.out.pushed hb3 ⟨i, b, cb, d⟩ hi hbb HD.out (hfil.keep (hb23.block b hfil.lt)) v4 own4' gr4 at4
  have P3 := Lib.hid p3
  have P4 := Lib.hid p4
  clear p3 p4 own4 own4' gr4 at4 k3 hone hnew hi0 hz0 hz1 hz2 hn3 hro hw3
  go_wp2
  go_ret
  refine ⟨rfl, ⟨W', cw', b, cb, P3.out.more fun j hj => ?_⟩, HT0.out.trans P4.out (fun _ _ h => h)⟩
  rcases (P3.out.foot hj).1 with h1 | h1
  · exact .inl h1
  · exact .inr ⟨by have := HSZ.out; omega, h1.2⟩

set_option maxRecDepth 100000 in
set_option maxHeartbeats 1000000 in
theorem rwrite_pos (k : Rk S w g L cl W cw ls ws left false) (hws : ws.length ≤ 1000000) (hleft : 0 < left) (hleft2 : left ≤ 9223372036854775807) (i : Nat) (hi : i < ls.length) (A : Option Addr) (cA : Nat) (d : List UInt8) (hd : d.length = 512) (hr : Rd w w.heap.size A 512 d) (hAg : ∀ a, A = some a → a.block ≠ g) :
    Calls Try.prog 27 #[.pointer (some ⟨g, 0, none⟩), .int .i64 (i : Int), .slice A 512 cA] w fun e w' => e = .returned (.int .i64 0) ∧ (∃ W' cw' b cb, Rk (grow S w w') w' g L cl W' cw' ls (ws ++ [⟨i, b, cb, d⟩]) (left - 1) false) ∧ Tch S w w' := by
  obtain ⟨bA, oA, rfl, hlA⟩ : ∃ b o, A = some ⟨b, o, none⟩ ∧ b < w.heap.size := by
    obtain ⟨b, o, e, h, _⟩ := hr.2 (by omega)
    exact ⟨b, o, e, h⟩
  have c0 := k.c0
  have c2 := k.c2
  have c3 := k.c3
  have h0 : ¬ (i : Int) < 0 := by omega
  have hle0 : (left == 0) = false := by rw [beq_eq_false_iff_ne]; omega
  have f3 := k.thaw 3
  obtain ⟨w0, hw0⟩ : ∃ w0, (w.setCell ⟨g, 3, none⟩ (.int .i64 (left - 1))).drew = w0 := ⟨_, rfl⟩
  have k0 : Rk S w0 g L cl W cw ls ws (left - 1) false := by rw [← hw0]; exact (k.set3 (left - 1)).drew
  have hsz0 : w0.heap.size = w.heap.size := by rw [← hw0]; simp [World.setCell]
  have hb0 : Tch (fun j => j = g) w w0 := by rw [← hw0]; exact (Tch.set (S := fun j => j = g) w ⟨g, 3, none⟩ _ rfl).drew
  have r0 : Rd w0 w0.heap.size (some ⟨bA, oA, none⟩) 512 d := by
    exact hr.tch hb0 (fun a e h => hAg a e h)
  have HT0 : Hid (Tch S w w0) := ⟨hb0.os, hb0.tape, hb0.output, hb0.size, fun j hj hn => hb0.block j hj (fun e => hn (by rw [e]; exact k.sg))⟩
  clear hb0
  have hA : w0.heap[g]? = some (.cells #[.slice L ls.length cl, .slice W ws.length cw, .bool false, .int .i64 (left - 1)] 43 (0, 0)) := k0.obj
  have K0 := Lib.hid k0
  have HW0 := Lib.hid hw0
  have HD := Lib.hid hd
  have HSZ := Lib.hid hsz0
  have R0 := Lib.hid r0
  clear hw0 k0 r0 hd k hr hsz0 hAg hlA hA
  go_enter Try.func27, Try.ntmps27
  go_wp2_with fail
  refine wp_region_tail w0.heap.size [([0, 1, 2, 3, 4, 5, 7], 6), ([], 8), ([9], 10)] [] [11, 12, 13, 14] (by kernel_rfl) (by kernel_rfl) (by kernel_rfl) (fun _ _ _ _ _ h => h) ?_
  rw [HW0.out]
  clear c0 c2 c3 hle0 hleft hleft2 f3
  have q0 : ∀ x : LaterB w0.heap.size w0, x.val.cell? ⟨g, 1, none⟩ = some (.slice W ws.length cw) := fun x => (x.ext.cell (p := ⟨g, 1, none⟩) K0.out.lt).trans K0.out.c1
  refine tail_cons (l := ?seg1) ?hseg1 ?_
  case hseg1 => simp only [pick, List.getElem?_toArray, List.getElem?_cons_succ, List.getElem?_cons_zero]; rfl
  repeat (go_big_quiet_step (fail))
  refine wpQuiet_nil ?_
  clear q0
  refine tail_val2 (some 53) (w1 := w0.alloc (.cells #[] 5)) (v := .slice (some ⟨w0.heap.size, 0, none⟩) 0 0) rfl rfl rfl (bslice_run rfl rfl (run_none_ w0)) ((Below.refl _ _).alloc (Nat.le_refl _) _) ⟨w0.heap.size, Nat.le_refl _, ?_⟩
  simp only [Act.put, List.setIfInBounds_toArray, List.set_cons_zero, List.set_cons_succ]
  obtain ⟨w1, hw1⟩ : ∃ w1, w0.alloc (.cells #[] 5) = w1 := ⟨_, rfl⟩
  have own1 : w1.ownsRow w0.heap.size 5 1 (.slice (some ⟨w0.heap.size, 0, none⟩) 0 0) 0 (([] : List UInt8).map bv) := by rw [← hw1]; exact World.ownsRow_lit w0 _ 0 (Nat.le_refl _) (by unfold maxLen; omega) rfl
  have r1 : Rd w1 w0.heap.size (some ⟨bA, oA, none⟩) 512 d := by rw [← hw1]; exact R0.out.alloc (Nat.le_refl _) _
  have hb1 : Below w0.heap.size w0 w1 := by rw [← hw1]; exact (Below.refl _ _).alloc (Nat.le_refl _) _
  rw [hw1]
  clear hw1
  refine tail_cons (l := ?seg2) ?hseg2 ?_
  case hseg2 => rfl
  refine wpQuiet_nil ?_
  refine tail_bytes (some 55) (.tmp 53) (.tmp 54) 22 5 rfl rfl rfl rfl Try.underlying22 u8_inf (.slice (some ⟨w0.heap.size, 0, none⟩) 0 0) 0 [] rfl own1 hb1.size w0.heap.size ⟨bA, oA, none⟩ 512 cA d rfl r1 (by omega) ?_
  intro x2 w2 own2 hb2
  obtain ⟨b, cb, rfl, _, _⟩ := own_rd own2 (by omega)
  have own2' : w2.ownsRow w0.heap.size 5 1 (.slice (some ⟨b, 0, none⟩) 512 cb) 512 (d.map bv) := by simpa using own2
  have hbb := (own2'.lt b rfl).1
  have hfil := Fil.of_own own2'
  have hb02 : Below w0.heap.size w0 w2 := hb1.trans hb2
  refine ⟨w0.heap.size, Nat.le_refl _, ?_⟩
  clear own1 r1 hb1 own2 own2' hb2
  refine tail_cons (l := ?seg3) ?hseg3 ?_
  case hseg3 => simp only [pick, List.getElem?_toArray, List.getElem?_cons_succ, List.getElem?_cons_zero]; rfl
  simp only [Act.put, List.setIfInBounds_toArray, List.set_cons_zero, List.set_cons_succ, Nat.zero_add]
  repeat (go_big_quiet_step (fail))
  refine wpQuiet_nil ?_
  obtain ⟨w3, hw3⟩ : ∃ w3, w2.alloc (.cells #[.int .i64 (i : Int), .slice (some ⟨b, 0, none⟩) 512 cb] 64) = w3 := ⟨_, rfl⟩
  have hro := run_onew w2 (i : Int) (some ⟨b, 0, none⟩) 512 cb
  rw [hw3] at hro
  have hb23 : Below w2.heap.size w2 w3 := by rw [← hw3]; exact (Below.refl _ _).alloc (Nat.le_refl _) _
  have hn3 : w3.heap[w2.heap.size]? = some (.cells #[.int .i64 (i : Int), .slice (some ⟨b, 0, none⟩) 512 cb] 64 (0, 0)) := by rw [← hw3]; exact heap_alloc_new w2 _
  have hb3 : Below w0.heap.size w0 w3 := hb02.trans (hb23.mono hb02.size)
  refine tail_val2 (some 57) (w1 := w3) (v := .slice (some ⟨w2.heap.size, 0, none⟩) 1 1) rfl rfl rfl ?rv1 (hb23.mono hb02.size) ⟨w0.heap.size, Nat.le_refl _, ?_⟩
  case rv1 => exact bslice_run rfl rfl hro
  refine tail_last (l := ?la3) (t := ?tl3) ?hla3 ?htl3 ?_
  case hla3 => rfl
  case htl3 => simp only [pick, List.getElem?_toArray, List.getElem?_cons_succ, List.getElem?_cons_zero]; rfl
  refine wpQuiet_nil ?_
  simp only [Act.put, List.setIfInBounds_toArray, List.set_cons_zero, List.set_cons_succ]
  obtain ⟨i0, hi0, hz0, hz1, hz2⟩ := info_parts wait_inf
  have hwcap := K0.out.caps
  have hnew : ∀ j u, [Value.int .i64 (i : Int), .slice (some ⟨b, 0, none⟩) 512 cb][j]? = some u → w3.cell? ((⟨w2.heap.size, 0, none⟩ : Addr).add j) = some u := by
    intro j u hu
    have e : (⟨w2.heap.size, 0, none⟩ : Addr).add j = ⟨w2.heap.size, j, none⟩ := by unfold Addr.add; split <;> simp_all
    rw [e, cell_of_row w3 _ j _ _ (0, 0) hn3]
    simpa using hu
  have hone : ∀ u ∈ [Value.int .i64 (i : Int), .slice (some ⟨b, 0, none⟩) 512 cb], u.oneCell' = true := by
    intro u hu
    simp at hu
    rcases hu with rfl | rfl <;> rfl
  have k3 := K0.out.below hb3
  refine wpList_append_own_at w3 rfl (.tmp 51) (.tmp 57) 41 rfl 0 64 i0 _ 2 32 Try.underlying41 hi0 hz0 hz1 hz2 rfl (by decide) (.slice W ws.length cw) ws.length (flat ws) rfl k3.wrow ⟨w2.heap.size, 0, none⟩ 1 1 _ rfl rfl hnew hone (by unfold maxLen; omega) (by omega) (Nat.zero_le _) ?_
  intro v4 w4 own4 gr4 _ at4
  have own4' : w4.ownsRow 0 64 2 v4 (ws.length + 1) (flat (ws ++ [⟨i, b, cb, d⟩])) := by rw [flat_append]; exact own4
  obtain ⟨p1, p2, W', cw', rfl, p3, p4⟩ := K0.out.pushed hb3 ⟨i, b, cb, d⟩ hi hbb HD.out (hfil.keep (hb23.block b hfil.lt)) v4 own4' gr4 at4
  have P3 := Lib.hid p3
  have P4 := Lib.hid p4
  clear p3 p4 own4 own4' gr4 at4 k3 hone hnew hi0 hz0 hz1 hz2 hn3 hro hw3
  go_wp2
  go_ret
  refine ⟨rfl, ⟨W', cw', b, cb, P3.out.more fun j hj => ?_⟩, HT0.out.trans P4.out (fun _ _ h => h)⟩
  rcases (P3.out.foot hj).1 with h1 | h1
  · exact .inl h1
  · exact .inr ⟨by have := HSZ.out; omega, h1.2⟩
end

set_option maxRecDepth 100000 in
set_option maxHeartbeats 2000000 in
theorem rnew_any (w : World) (b o c : Nat) (bs : List UInt8) (N : Nat) (hN : bs.length = 512 * N) (hN2 : N ≤ 1000) (hr : Rd w w.heap.size (some ⟨b, o, none⟩) bs.length bs) (hc : bs.length ≤ c) (hcm : c ≤ 9223372036854775807) :
    Calls Try.prog 7 #[.slice (some ⟨b, o, none⟩) bs.length c] w fun e w' => e = .returned (.pointer (some ⟨w.heap.size, 0, none⟩)) ∧ (∃ L cl ls, Rk (grow (fun _ => False) w w') w' w.heap.size L cl none 0 ls [] (-1) false ∧ joinD ls = bs) ∧ Below w.heap.size w w' := by
  obtain ⟨w0, hw0⟩ : ∃ w0, w.alloc (.cells #[.slice none 0 0, .slice none 0 0, .bool false, .int .i64 (-1)] 43) = w0 := ⟨_, rfl⟩
  obtain ⟨g, hg⟩ : ∃ g, w.heap.size = g := ⟨_, rfl⟩
  have hb0 : Below w.heap.size w w0 := by rw [← hw0]; exact (Below.refl _ _).alloc (Nat.le_refl _) _
  have k0 : Rk (grow (fun _ => False) w w0) w0 g none 0 none 0 [] [] (-1) false := by
    rw [← hw0, ← hg]
    exact ⟨heap_alloc_new w _, World.ownsRow_nil _ _ _ _, World.ownsRow_nil _ _ _ _, (fun x hx => by cases hx), (fun x hx => by cases hx), .inr ⟨Nat.le_refl _, by simp⟩, (fun a e => by cases e), (fun a e => by cases e), (fun x hx => by cases hx), (fun x hx => by cases hx)⟩
  have K0 := Lib.hid k0
  have HB0 := Lib.hid hb0
  have HW0 := Lib.hid hw0
  have HG := Lib.hid hg
  have HR := Lib.hid hr
  have HN := Lib.hid hN
  have hbl : bs.length ≤ 512000 := by omega
  clear k0 hb0 hw0 hr hN
  rw [hg]
  clear hg
  go_enter Try.func7, Try.ntmps7
  go_wp2
  rw [HW0.out, HG.out]
  go_loopw [4] (fun i wr => ∃ j : Nat, j ≤ N ∧ i = .int .i64 ((512 * j : Nat) : Int) ∧ (∃ L cl ls, Rk (grow (fun _ => False) w wr) wr g L cl none 0 ls [] (-1) false ∧ joinD ls = bs.take (512 * j)) ∧ Below w.heap.size w wr) (fun i _ => 512 * N - (intOf i).toNat)
  case atStart => exact ⟨0, Nat.zero_le _, rfl, ⟨_, _, _, K0.out, rfl⟩, HB0.out⟩
  case round =>
    obtain ⟨j, hj, rfl, ⟨L, cl, ls, kr, hjn⟩, hb⟩ := hrel
    obtain ⟨t, ht⟩ : ∃ t, 512 * j = t := ⟨_, rfl⟩
    rw [ht] at hjn ⊢
    have hN := HN.out
    by_cases hlt : j < N
    · obtain ⟨w1, hw1⟩ : ∃ w1, wr.drew = w1 := ⟨_, rfl⟩
      have k1 : Rk (grow (fun _ => False) w w1) w1 g L cl none 0 ls [] (-1) false := by rw [← hw1]; exact kr.drew
      have b1 : Below w.heap.size w w1 := by rw [← hw1]; exact hb.drew
      have hls : 512 * ls.length = t := by
        have h1 := joinD_length ls (fun x hx => (k1.lf x hx).1)
        have h2 := congrArg List.length hjn
        rw [List.length_take] at h2
        omega
      obtain ⟨d, hd⟩ : ∃ d, (bs.drop t).take 512 = d := ⟨_, rfl⟩
      have hdl : d.length = 512 := by rw [← hd, List.length_take, List.length_drop]; omega
      have r1 : Rd w1 w.heap.size (some ⟨b, o + t, none⟩) 512 d := by
        have := (HR.out.below b1).sub t 512 (by omega)
        rw [hd] at this
        exact this
      have E : bs.take (t + 512) = bs.take t ++ d := by rw [← hd, List.take_add]
      obtain ⟨hc1, hc2, _, _⟩ := k1.caps
      unfold maxLen at hc2
      have s0 : (t : Int) + 512 ≤ (bs.length : Int) := by omega
      have s1 : ¬ c = t := by omega
      have HE := Lib.hid E
      have HK1 := Lib.hid k1
      have HB1 := Lib.hid b1
      have HW1 := Lib.hid hw1
      have HDL := Lib.hid hdl
      have HJN := Lib.hid hjn
      have HLS := Lib.hid hls
      have R1 := Lib.hid r1
      have HT := Lib.hid ht
      clear k1 b1 hw1 hdl hd hjn hls r1 E kr hb ht hN
      go_wp2_with fail
      refine wp_region_tail w1.heap.size [([0, 1, 2, 3, 4, 6, 7, 8, 9, 10], 5), ([], 11), ([], 12)] [] [13, 14, 15, 16] (by kernel_rfl) (by kernel_rfl) (by kernel_rfl) (fun _ _ _ _ _ h => h) ?_
      rw [HW1.out]
      have q0 : ∀ x : LaterB w1.heap.size w1, x.val.cell? ⟨g, 0, none⟩ = some (.slice L ls.length cl) := fun x => (x.ext.cell (p := ⟨g, 0, none⟩) HK1.out.lt).trans HK1.out.c0
      have s2 : 0 ≤ (t : Int) + 512 := by omega
      have s3 : (t : Int) + 512 ≤ (c : Int) := by omega
      have s4 : ((t : Int) + 512).toNat = t + 512 := by omega
      have s5 : IntKind.i64.wrap ((t : Int) + 512) = (t : Int) + 512 := by rw [IntKind.wrap_i64]; omega
      refine tail_cons (l := ?seg1) ?hseg1 ?_
      case hseg1 => simp only [pick, List.getElem?_toArray, List.getElem?_cons_succ, List.getElem?_cons_zero]; rfl
      repeat (go_big_quiet_step (fail))
      refine wpQuiet_nil ?_
      clear q0 s2 s3 s4 s5
      refine tail_val2 (some 19) (w1 := w1.alloc (.cells #[] 5)) (v := .slice (some ⟨w1.heap.size, 0, none⟩) 0 0) rfl rfl rfl (bslice_run rfl rfl (run_none_ w1)) ((Below.refl _ _).alloc (Nat.le_refl _) _) ⟨w1.heap.size, Nat.le_refl _, ?_⟩
      simp only [Act.put, List.setIfInBounds_toArray, List.set_cons_zero, List.set_cons_succ]
      obtain ⟨w2, hw2⟩ : ∃ w2, w1.alloc (.cells #[] 5) = w2 := ⟨_, rfl⟩
      have own2 : w2.ownsRow w1.heap.size 5 1 (.slice (some ⟨w1.heap.size, 0, none⟩) 0 0) 0 (([] : List UInt8).map bv) := by rw [← hw2]; exact World.ownsRow_lit w1 _ 0 (Nat.le_refl _) (by unfold maxLen; omega) rfl
      have r2 : Rd w2 w.heap.size (some ⟨b, o + t, none⟩) 512 d := by rw [← hw2]; exact R1.out.alloc HB1.out.size _
      have hb2 : Below w1.heap.size w1 w2 := by rw [← hw2]; exact (Below.refl _ _).alloc (Nat.le_refl _) _
      rw [hw2]
      clear hw2
      refine tail_cons (l := ?seg2) ?hseg2 ?_
      case hseg2 => rfl
      refine wpQuiet_nil ?_
      refine tail_bytes (some 25) (.tmp 19) (.tmp 24) 22 5 rfl rfl rfl rfl Try.underlying22 u8_inf (.slice (some ⟨w1.heap.size, 0, none⟩) 0 0) 0 [] rfl own2 hb2.size w.heap.size ⟨b, o + t, none⟩ 512 (c - t) d rfl r2 (by omega) ?_
      intro x3 w3 own3 hb3
      have own3' : w3.ownsRow w1.heap.size 5 1 x3 512 (d.map bv) := by simpa [Nat.add_sub_cancel_left] using own3
      obtain ⟨b3, cb, rfl, _, _⟩ := own_rd own3' (by omega)
      have hbb := (own3'.lt b3 rfl).1
      have hfil := Fil.of_own own3'
      have hb03 : Below w1.heap.size w1 w3 := hb2.trans hb3
      refine ⟨w1.heap.size, Nat.le_refl _, ?_⟩
      clear own2 r2 hb2 own3 own3' hb3
      refine tail_cons (l := ?seg3) ?hseg3 ?_
      case hseg3 => rfl
      refine wpQuiet_nil ?_
      simp only [Act.put, List.setIfInBounds_toArray, List.set_cons_zero, List.set_cons_succ]
      obtain ⟨w4, hw4⟩ : ∃ w4, w3.alloc (.cells #[.slice (some ⟨b3, 0, none⟩) 512 cb] 22) = w4 := ⟨_, rfl⟩
      have hro := run_ones w3 (some ⟨b3, 0, none⟩) 512 cb
      rw [hw4] at hro
      have hb34 : Below w3.heap.size w3 w4 := by rw [← hw4]; exact (Below.refl _ _).alloc (Nat.le_refl _) _
      have hn4 : w4.heap[w3.heap.size]? = some (.cells #[.slice (some ⟨b3, 0, none⟩) 512 cb] 22 (0, 0)) := by rw [← hw4]; exact heap_alloc_new w3 _
      have hb4 : Below w1.heap.size w1 w4 := hb03.trans (hb34.mono hb03.size)
      refine tail_val2 (some 26) (w1 := w4) (v := .slice (some ⟨w3.heap.size, 0, none⟩) 1 1) rfl rfl rfl ?rv1 (hb34.mono hb03.size) ⟨w1.heap.size, Nat.le_refl _, ?_⟩
      case rv1 => exact bslice_run rfl rfl hro
      refine tail_last (l := ?la3) (t := ?tl3) ?hla3 ?htl3 ?_
      case hla3 => rfl
      case htl3 => simp only [pick, List.getElem?_toArray, List.getElem?_cons_succ, List.getElem?_cons_zero]; rfl
      refine wpQuiet_nil ?_
      simp only [Act.put, List.setIfInBounds_toArray, List.set_cons_zero, List.set_cons_succ]
      obtain ⟨i0, hi0, hz0, hz1, hz2⟩ := info_parts sl_inf
      have hnew : ∀ j u, [Value.slice (some ⟨b3, 0, none⟩) 512 cb][j]? = some u → w4.cell? ((⟨w3.heap.size, 0, none⟩ : Addr).add j) = some u := by
        intro j u hu
        have e : (⟨w3.heap.size, 0, none⟩ : Addr).add j = ⟨w3.heap.size, j, none⟩ := by unfold Addr.add; split <;> simp_all
        rw [e, cell_of_row w4 _ j _ _ (0, 0) hn4]
        simpa using hu
      have hone : ∀ u ∈ [Value.slice (some ⟨b3, 0, none⟩) 512 cb], u.oneCell' = true := by
        intro u hu
        simp at hu
        subst hu; rfl
      have k4 := HK1.out.below hb4
      have hlsb : ls.length ≤ 1000 := by have := HLS.out; omega
      refine wpList_append_own_at w4 rfl (.tmp 18) (.tmp 26) 40 rfl 0 22 i0 _ 1 24 Try.underlying40 hi0 hz0 hz1 hz2 rfl (by decide) (.slice L ls.length cl) ls.length (ls.map Wr.one) rfl k4.lrow ⟨w3.heap.size, 0, none⟩ 1 1 _ rfl rfl hnew hone (by unfold maxLen; omega) (by omega) (Nat.zero_le _) ?_
      intro v5 w5 own5 gr5 _ at5
      have own5' : w5.ownsRow 0 22 1 v5 (ls.length + 1) ((ls ++ [(⟨0, b3, cb, d⟩ : Wr)]).map Wr.one) := by simpa [Wr.one] using own5
      obtain ⟨p1, p2, L', cl', rfl, p3, p4⟩ := HK1.out.lpushed hb4 ⟨0, b3, cb, d⟩ hbb HDL.out (hfil.keep (hb34.block b3 hfil.lt)) v5 own5' gr5 at5
      have hsz := HB1.out.size
      have P5 : Hid (Rk (grow (fun _ => False) w (w5.setCell ⟨g, 0, none⟩ (.slice L' (ls.length + 1) cl'))) (w5.setCell ⟨g, 0, none⟩ (.slice L' (ls.length + 1) cl')) g L' cl' none 0 (ls ++ [⟨0, b3, cb, d⟩]) [] (-1) false) := p3.more fun j hj => by
        rcases (p3.foot hj).1 with (h1 | h1) | h1
        · cases h1
        · exact .inr ⟨h1.1, (p3.foot hj).2⟩
        · exact .inr ⟨by omega, h1.2⟩
      have J5 : Hid (joinD (ls ++ [⟨0, b3, cb, d⟩]) = bs.take (t + 512)) := (show _ = _ by rw [joinD_snoc, HJN.out, HE.out])
      have B5 : Hid (Below w.heap.size w (w5.setCell ⟨g, 0, none⟩ (.slice L' (ls.length + 1) cl'))) := HB1.out.trans (p4.below (fun j hj => by rcases hj with h | h; cases h; exact h.1) hsz)
      clear p3 p4 own5 own5' gr5 at5 k4 hone hnew hi0 hz0 hz1 hz2 hn4 hro hw4
      go_wp2
      go_roundw
      case rel => exact ⟨j + 1, by omega, int_v (by have := HT.out; omega), ⟨L', cl', _, P5.out, by rw [J5.out]; congr 1; have := HT.out; omega⟩, B5.out⟩
      case measure => have := HT.out; have := HN.out; simp [intOf]; omega
    · obtain rfl : j = N := by omega
      rw [← ht, ← HN.out, List.take_length] at hjn
      have HH : Hid (∃ L cl ls, Rk (grow (fun _ => False) w wr) wr g L cl none 0 ls [] (-1) false ∧ joinD ls = bs) := ⟨L, cl, ls, kr, hjn⟩
      have HB := Lib.hid hb
      have s6 : (bs.length : Int) < (t : Int) + 512 := by omega
      have s7 : (t : Int) ≤ 512000 := by omega
      clear kr hb hjn hN ht
      go_wp2
      go_ret
      exact ⟨rfl, HH.out, HG.out ▸ HB.out⟩
end Go.Proofs.Ytkddcfaomaphaaa
