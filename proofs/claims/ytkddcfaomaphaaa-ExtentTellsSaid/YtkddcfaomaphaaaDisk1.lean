/- The contracts of a disk's calls that only read, and of settle. -/
import Derived.Test.YtkddcfaomaphaaaDk
import Derived.Test.YtkddcfaomaphaaaHelp
namespace Go.Proofs.Ytkddcfaomaphaaa
open Go.RowKit

theorem ret_i {k : IntKind} {a b : Int} (h : a = b) : Ending.returned (.int k a) = .returned (.int k b) := by rw [h]

theorem ret_b {a b : Bool} (h : a = b) : Ending.returned (.bool a) = .returned (.bool b) := by rw [h]
theorem ret_sl {A : Option Addr} {a b c : Nat} (h : a = b) : Ending.returned (.slice A a c) = .returned (.slice A b c) := by rw [h]

section
variable {S : Nat → Prop} {w : World} {g h c : Nat} {W : Option Addr} {cw : Nat} {bs : List UInt8} {ws : List Wr} {left : Int} {off : Bool}
set_option maxRecDepth 100000 in
set_option maxHeartbeats 400000 in
theorem dsectors_any (k : Dk S w g h c W cw bs ws left off) (hl : bs.length ≤ 100000) :
    Calls Try.prog 32 #[.pointer (some ⟨g, 0, none⟩)] w fun e w' => e = .returned (.int .i64 ((bs.length / 512 : Nat) : Int)) ∧ w = w' := by
  have c0 := k.c0
  go_enter Try.func32, Try.ntmps32
  go_wp2
  go_ret
  exact ⟨ret_i (by omega), rfl⟩

set_option maxRecDepth 100000 in
set_option maxHeartbeats 400000 in
theorem dwaiting_any (k : Dk S w g h c W cw bs ws left off) :
    Calls Try.prog 15 #[.pointer (some ⟨g, 0, none⟩)] w fun e w' => e = .returned (.int .i64 (ws.length : Int)) ∧ w = w' := by
  have c1 := k.c1
  go_enter Try.func15, Try.ntmps15
  go_wp2
  go_ret
  exact ⟨rfl, rfl⟩

set_option maxRecDepth 100000 in
set_option maxHeartbeats 400000 in
theorem dbytes_any (k : Dk S w g h c W cw bs ws left off) (hl : bs.length ≤ 100000) :
    Calls Try.prog 18 #[.pointer (some ⟨g, 0, none⟩)] w fun e w' => NewRow bs w e w' := by
  have c0 := k.c0
  have HC := Lib.hid (sclone_any (some ⟨h, 0, none⟩) c w.heap.size bs w k.reads (Nat.le_refl _) (fun e => by cases e) (by omega))
  go_enter Try.func18, Try.ntmps18
  go_wp2_with fail
  refine HC.out.mono ?_
  rintro e w1 ⟨A', c', rfl, ho, hb⟩
  have HO := Lib.hid ho
  clear ho
  go_wp2
  go_ret
  exact ⟨A', c', rfl, HO.out, hb⟩

set_option maxRecDepth 100000 in
set_option maxHeartbeats 400000 in
theorem dhas_yes (k : Dk S w g h c W cw bs ws left off) (hl : bs.length ≤ 100000) (i : Nat) (hi : i * 512 + 512 ≤ bs.length) :
    Calls Try.prog 33 #[.pointer (some ⟨g, 0, none⟩), .int .i64 (i : Int)] w fun e w' => e = .returned (.bool true) ∧ w = w' := by
  have HS := Lib.hid (dsectors_any k hl)
  obtain ⟨n, hn⟩ : ∃ n, bs.length / 512 = n := ⟨_, rfl⟩
  rw [hn] at HS
  have hin : i < n := by omega
  clear hn
  go_enter Try.func33, Try.ntmps33
  go_wp2_with fail
  refine HS.out.mono ?_
  rintro e w1 ⟨rfl, rfl⟩
  go_wp2
  go_ret
  exact ⟨rfl, rfl⟩

set_option maxRecDepth 100000 in
set_option maxHeartbeats 400000 in
theorem dhas_no (k : Dk S w g h c W cw bs ws left off) (hl : bs.length ≤ 100000) (i : Int) (hi : i < 0 ∨ (bs.length : Int) < i * 512 + 512) :
    Calls Try.prog 33 #[.pointer (some ⟨g, 0, none⟩), .int .i64 i] w fun e w' => e = .returned (.bool false) ∧ w = w' := by
  have HS := Lib.hid (dsectors_any k hl)
  obtain ⟨n, hn⟩ : ∃ n, bs.length / 512 = n := ⟨_, rfl⟩
  rw [hn] at HS
  by_cases h0 : i < 0
  · clear hi hn
    go_enter Try.func33, Try.ntmps33
    go_wp2
    go_ret
    exact ⟨rfl, rfl⟩
  · have hin : (n : Int) ≤ i := by omega
    have h1 : 0 ≤ i := by omega
    clear hn hi
    go_enter Try.func33, Try.ntmps33
    go_wp2_with fail
    refine HS.out.mono ?_
    rintro e w1 ⟨rfl, rfl⟩
    go_wp2
    go_ret
    exact ⟨ret_b (decide_eq_false (by omega)), rfl⟩

set_option maxRecDepth 100000 in
set_option maxHeartbeats 400000 in
theorem standing_any (k : Dk S w g h c W cw bs ws left off) (_hl : bs.length ≤ 100000) (i : Nat) (hi : i * 512 + 512 ≤ bs.length) :
    Calls Try.prog 35 #[.pointer (some ⟨g, 0, none⟩), .int .i64 (i : Int)] w fun e w' => e = .returned (.slice (some ⟨h, i * 512, none⟩) 512 (c - i * 512)) ∧ w = w' := by
  have c0 := k.c0
  obtain ⟨hc1, hc2⟩ := k.cap
  unfold maxLen at hc2
  have hne : ¬ c = i * 512 := by omega
  go_enter Try.func35, Try.ntmps35
  go_wp2
  go_ret
  exact ⟨ret_sl (by omega), rfl⟩

set_option maxRecDepth 100000 in
set_option maxHeartbeats 400000 in
theorem settle_any (k : Dk S w g h c W cw bs ws left off) (hl : bs.length ≤ 100000) (s b cb : Nat) (d : List UInt8) (hd : d.length = 512) (hs : s * 512 + 512 ≤ bs.length) (hf : Fil w b d) :
    Calls Try.prog 30 #[.pointer (some ⟨g, 0, none⟩), .agg #[.int .i64 (s : Int), .slice (some ⟨b, 0, none⟩) 512 cb]] w fun e w' => e = .returned (.tuple #[]) ∧ Dk S w' g h c W cw (lay bs (s * 512) d) ws left off ∧ Tch (fun j => j = h) w w' := by
  obtain ⟨hc1, hc2⟩ := k.cap
  unfold maxLen at hc2
  obtain ⟨w0, hw0⟩ : ∃ w0, (w.alloc (.cells #[.int .i64 (s : Int), .slice (some ⟨b, 0, none⟩) 512 cb] 61)).drew = w0 := ⟨_, rfl⟩
  have hb0 : Below w.heap.size w w0 := by rw [← hw0]; exact ((Below.refl _ _).alloc (Nat.le_refl _) _).drew
  have d0 : w0.heap[w.heap.size]? = some (.cells #[.int .i64 (s : Int), .slice (some ⟨b, 0, none⟩) 512 cb] 61 (0, 0)) := by rw [← hw0]; exact heap_alloc_new w _
  have k0 := k.below hb0
  have f0 := hf.keep (hb0.block b hf.lt)
  have HST := Lib.hid (standing_any k0 hl s hs)
  obtain ⟨cur, hrow, hsz, htake⟩ := k0.curs
  have HF := Lib.hid (k0.over hrow hsz htake (s * 512) d (by omega))
  have HSRC := Lib.hid (rd_cells f0.reads)
  have HN : Hid ((d.map bv).length = Nat.min 512 512) := (show _ = _ by rw [List.length_map, hd]; rfl)
  have HFIT : Hid (s * 512 + (d.map bv).length ≤ cur.size) := (show _ ≤ _ by rw [List.length_map]; omega)
  have HROW := Lib.hid hrow
  have HT : Hid (Tch (fun j => j = h) w (w0.setRow h (cur.toList.take (s * 512) ++ (d.map bv ++ cur.toList.drop (s * 512 + (d.map bv).length))).toArray)) :=
    (Tch.of_below (S := fun j => j = h) hb0).trans (S' := fun j => j = h) ⟨rfl, rfl, rfl, by simp [World.setRow], fun j _ hj => setRow_other w0 h j _ hj⟩ (fun _ _ h => h)
  have e0 := cell_of_row w0 w.heap.size 0 _ _ (0, 0) d0
  have e1 := cell_of_row w0 w.heap.size 1 _ _ (0, 0) d0
  simp only [List.getElem?_toArray, List.getElem?_cons_zero, List.getElem?_cons_succ] at e0 e1
  have hlt0 : w.heap.size < w0.heap.size := heap_lt d0
  have HW0 := Lib.hid hw0
  have Hb := Lib.hid hd
  clear hw0 hb0 d0 k0 f0 hrow hsz htake hf k hd
  go_enter Try.func30, Try.ntmps30
  go_wp2_with fail
  refine wp_region_tail w0.heap.size [([0, 1, 2, 4, 5], 3)] [] [6] (by kernel_rfl) (by kernel_rfl) (by kernel_rfl) (fun _ _ _ _ _ h => h) ?_
  rw [HW0.out]
  have q0 : ∀ x : LaterB w0.heap.size w0, x.val.cell? ⟨w.heap.size, 0, none⟩ = some (.int .i64 (s : Int)) := fun x => (x.ext.cell (p := ⟨w.heap.size, 0, none⟩) hlt0).trans e0
  have q1 : ∀ x : LaterB w0.heap.size w0, x.val.cell? ⟨w.heap.size, 1, none⟩ = some (.slice (some ⟨b, 0, none⟩) 512 cb) := fun x => (x.ext.cell (p := ⟨w.heap.size, 1, none⟩) hlt0).trans e1
  refine tail_cons (l := ?seg1) ?hseg1 ?_
  case hseg1 => simp only [pick, List.getElem?_toArray, List.getElem?_cons_succ, List.getElem?_cons_zero]; rfl
  repeat (go_big_quiet_step (fail))
  refine wpQuiet_nil ?_
  clear q0 q1
  refine tail_call (vs := #[.pointer (some ⟨g, 0, none⟩), .int .i64 (s : Int)]) Try.call35 rfl rfl rfl (R := fun r w' => r = .slice (some ⟨h, s * 512, none⟩) 512 (c - s * 512) ∧ w' = w0) (HST.out.mono ?_) w0.heap.size (Nat.le_refl _) ?_
  · rintro e w' ⟨rfl, rfl⟩
    exact ⟨_, rfl, Below.refl _ _, rfl, rfl⟩
  rintro r w1 _ ⟨rfl, rfl⟩
  refine tail_last (l := ?la1) (t := ?tl1) ?hla1 ?htl1 ?_
  case hla1 => rfl
  case htl1 => simp only [pick, List.getElem?_toArray, List.getElem?_cons_succ, List.getElem?_cons_zero]; rfl
  refine wpQuiet_nil ?_
  simp only [Act.put, List.setIfInBounds_toArray, List.set_cons_zero, List.set_cons_succ]
  refine wpList_copy_own rfl (.tmp 7) (.tmp 9) 22 22 rfl 5 Try.underlying22 (by kernel_rfl) h (s * 512) 512 (c - s * 512) ⟨b, 0, none⟩ 512 cb ?cc1 ?cc2 cur 5 HROW.out (d.map bv) HN.out HSRC.out HFIT.out (bv_one d) ?_
  case cc1 => rfl
  case cc2 => rfl
  generalize w1.setRow h _ = w2 at HF HT ⊢
  go_wp2
  go_end0
  exact ⟨rfl, HF.out, HT.out⟩
end

set_option maxRecDepth 100000 in
set_option maxHeartbeats 400000 in
theorem mayHave_yes (w : World) (n : Nat) (h1 : 2 ≤ n) (h2 : n ≤ 128) :
    Calls Try.prog 22 #[.int .i64 (n : Int)] w fun e w' => e = .returned (.bool true) ∧ w = w' := by
  go_enter Try.func22, Try.ntmps22
  go_wp2
  go_ret
  exact ⟨ret_b (decide_eq_true (by omega)), rfl⟩

set_option maxRecDepth 100000 in
set_option maxHeartbeats 400000 in
theorem mayHave_no (w : World) (n : Int) (h : n < 2 ∨ 128 < n) :
    Calls Try.prog 22 #[.int .i64 n] w fun e w' => e = .returned (.bool false) ∧ w = w' := by
  by_cases h1 : n < 2
  · clear h
    go_enter Try.func22, Try.ntmps22
    go_wp2
    go_ret
    exact ⟨rfl, rfl⟩
  · have h2 : 128 < n := by omega
    clear h
    go_enter Try.func22, Try.ntmps22
    go_wp2
    go_ret
    exact ⟨ret_b (decide_eq_false (by omega)), rfl⟩

set_option maxRecDepth 100000 in
set_option maxHeartbeats 400000 in
theorem dnew_no (w : World) (n : Int) (h : n < 2 ∨ 128 < n) :
    Calls Try.prog 6 #[.int .i64 n] w fun e w' => e = .returned (.pointer none) ∧ w = w' := by
  have HM := Lib.hid (mayHave_no w n h)
  clear h
  go_enter Try.func6, Try.ntmps6
  go_wp2_with fail
  refine HM.out.mono ?_
  rintro e w1 ⟨rfl, rfl⟩
  go_wp2
  go_ret
  exact ⟨rfl, rfl⟩

set_option maxRecDepth 100000 in
set_option maxHeartbeats 400000 in
theorem dnew_yes (w : World) (n : Nat) (h1 : 2 ≤ n) (h2 : n ≤ 128) :
    Calls Try.prog 6 #[.int .i64 (n : Int)] w fun e w' => e = .returned (.pointer (some ⟨w.heap.size + 1, 0, none⟩)) ∧ Dk (grow (fun _ => False) w w') w' (w.heap.size + 1) w.heap.size (n * 512) none 0 (List.replicate (n * 512) 0) [] (-1) false ∧ Below w.heap.size w w' := by
  have HM := Lib.hid (mayHave_yes w n h1 h2)
  have hmk := fun W => run_make_row' (P := Try.prog) 22 5 (.int .u8 0) 1 Try.underlying22 u8_info rfl .i64 .i64 (n * 512) (by omega) (by omega) W
  have hc : ((n * 512 : Nat) : Int) = (n : Int) * 512 := by omega
  rw [hc] at hmk
  clear hc
  go_enter Try.func6, Try.ntmps6
  go_wp2_with fail
  refine HM.out.mono ?_
  rintro e w1 ⟨rfl, rfl⟩
  go_wp2
  clear hmk
  rw [rowB_zeros]
  go_ret
  refine ⟨rfl, ⟨?_, ?_, World.ownsRow_nil _ _ _ _, (fun x hx => by cases hx), .inr ?_, .inr ?_, (fun a e => by cases e), (fun x hx => by cases hx)⟩, ?_⟩
  · rw [List.length_replicate]
    simpa using heap_alloc_new (w.alloc (.cells (rowB (List.replicate (n * 512) 0)) 5)) (.cells #[.slice (some ⟨w.heap.size, 0, none⟩) (n * 512) (n * 512), .slice none 0 0, .int .i64 (-1), .bool false] 53)
  · have hr := World.ownsRow_lit (base := 0) (e := 5) (size := 1) w (rowB (List.replicate (n * 512) 0)) (n * 512) (Nat.zero_le _) (by unfold maxLen; omega) (by rw [rowB_size]; simp)
    rw [List.length_replicate]
    have e : (rowB (List.replicate (n * 512) 0)).toList = (List.replicate (n * 512) (0 : UInt8)).map bv := by simp [rowB]
    rw [e] at hr
    exact own_below hr ((Below.refl _ _).alloc (Nat.le_refl _) _)
  · simp
  · simp; omega
  · exact ((Below.refl _ _).alloc (Nat.le_refl _) _).alloc (by simp) _
end Go.Proofs.Ytkddcfaomaphaaa
