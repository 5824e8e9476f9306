/- The contracts of the document's own blocks: Set. -/
import Derived.Test.YtodbakpjibcmiaaRef7d
namespace Go.Proofs.Ytodbakpjibcmiaa
open Go.RowKit

/-- Both tags of a block laid; none: it can't be. -/
def setB (bs : List UInt8) (o s : Int) (u : Bool) : Option (List UInt8) :=
  if isSz s = true ∧ could bs.length o s = true then some (layN (layN bs o.toNat (packN s u)) (o + s - 8).toNat (packN s u)) else none
theorem setB_length {bs out : List UInt8} {o s : Int} {u : Bool} (h : setB bs o s u = some out) : out.length = bs.length := by
  unfold setB at h
  split at h
  · rename_i hc
    injection h with h
    have h1 := (isSz_iff _).1 hc.1
    have h2 := (could_iff _ _ _).1 hc.2
    have e := layN_length bs o.toNat (packN s u) (by omega)
    rw [← h, layN_length _ _ _ (by omega), e]
  · cases h
/-- A slice of bytes, and whether. -/
def SlTold (bs : List UInt8) (ok : Bool) (w : World) (e : Ending) (w' : World) : Prop :=
  ∃ A' c', e = .returned (.tuple #[.slice A' bs.length c', .bool ok]) ∧ Rd w' w'.heap.size A' bs.length bs ∧ bs.length ≤ c' ∧ (A' = none → c' = 0) ∧ Below w.heap.size w w'
theorem own_facts {w : World} {base n c : Nat} {A : Option Addr} {bs : List UInt8} (h : w.ownsRow base 5 1 (.slice A n c) n (bs.map bv)) : Rd w w.heap.size A n bs ∧ n ≤ c ∧ (A = none → c = 0) := by
  obtain ⟨A', c', e, h1, h2⟩ := own_any h
  injection e with e1 _ e3
  subst e1 e3
  refine ⟨h2, h1, fun e => ?_⟩
  subst e
  rcases h.2 with ⟨h', _⟩ | ⟨_, _, _, h', _⟩
  · injection h' with _ _ e
  · injection h' with e; cases e

section
variable (w : World)
set_option maxHeartbeats 1000000 in
theorem rsetB_no (A : Option Addr) (c : Nat) (bs : List UInt8) (hr : Rd w w.heap.size A bs.length bs) (hlc : bs.length ≤ c) (hA0 : A = none → c = 0) (hl : bs.length ≤ 100000) (o s : Int) (u : Bool) (ho : -9223372036854775808 ≤ o ∧ o ≤ 9223372036854775807) (hs : -9223372036854775808 ≤ s ∧ s ≤ 9223372036854775807) (b1 b2 : Bool) (hb1 : isSz s = b1) (hb2 : could bs.length o s = b2) (hno : b1 = false ∨ (b1 = true ∧ b2 = false)) :
    Calls Try.prog 17 #[.slice A bs.length c, .agg #[.int .i64 o, .int .i64 s, .bool u]] w fun e w' => SlTold bs false w e w' := by
  have HI := Lib.hid (fun w => rissize_any w s hs b1 hb1)
  have HC := Lib.hid (fun w => rcould_any w A bs.length c (by omega) o s ho b2 hb2)
  have hbl : Below w.heap.size w (w.alloc (.cells #[.int .i64 o, .int .i64 s, .bool u] 25)) := (Below.refl _ _).alloc (Nat.le_refl _) _
  have HR := Lib.hid ((hr.below hbl).more hbl.size)
  have HB := Lib.hid hbl
  have HA0 := Lib.hid hA0
  clear hb1 hb2 hr hbl hA0
  rcases hno with rfl | ⟨rfl, rfl⟩
  · go_enter Try.func17, Try.ntmps17
    go_wp2_with fail
    with_reducible refine (HI.out _).mono ?_
    rintro e w1 ⟨rfl, rfl⟩
    go_wp2_with fail
    with_reducible refine (HC.out _).mono ?_
    rintro e w1 ⟨rfl, rfl⟩
    go_wp2
    go_ret2
    exact ⟨A, c, rfl, HR.out, hlc, HA0.out, HB.out⟩
  · go_enter Try.func17, Try.ntmps17
    go_wp2_with fail
    with_reducible refine (HI.out _).mono ?_
    rintro e w1 ⟨rfl, rfl⟩
    go_wp2_with fail
    with_reducible refine (HC.out _).mono ?_
    rintro e w1 ⟨rfl, rfl⟩
    go_wp2
    go_ret2
    exact ⟨A, c, rfl, HR.out, hlc, HA0.out, HB.out⟩

set_option maxHeartbeats 1000000 in
theorem rsetB_yes (A : Option Addr) (c : Nat) (bs : List UInt8) (hr : Rd w w.heap.size A bs.length bs) (hA0 : A = none → c = 0) (hl : bs.length ≤ 100000) (o s : Nat) (u : Bool) (hs : isSz (s : Int) = true) (hc : could bs.length (o : Int) (s : Int) = true) (v : Nat) (hv : packN (s : Int) u = v) :
    Calls Try.prog 17 #[.slice A bs.length c, .agg #[.int .i64 (o : Int), .int .i64 (s : Int), .bool u]] w fun e w' => SlTold (layN (layN bs o v) (o + s - 8) v) true w e w' := by
  have h1 := (isSz_iff _).1 hs
  have h2 := (could_iff _ _ _).1 hc
  have hv2 : v < 18446744073709551616 := by rw [← hv]; have := packN_lt (s : Int) u; omega
  have HI := Lib.hid (fun w => rissize_any w (s : Int) (by omega) true hs)
  have HC := Lib.hid (fun w => rcould_any w A bs.length c (by omega) (o : Int) (s : Int) (by omega) true hc)
  have HP := Lib.hid (fun w => rpack_any w (s : Int) u (by omega) v hv)
  obtain ⟨w1, hw1⟩ : ∃ w1, (w.alloc (.cells #[.int .i64 (o : Int), .int .i64 (s : Int), .bool u] 25)) = w1 := ⟨_, rfl⟩
  obtain ⟨w0, hw0⟩ : ∃ w0, w1.drew = w0 := ⟨_, rfl⟩
  have hbl : Below w.heap.size w w0 := by rw [← hw0, ← hw1]; exact ((Below.refl _ _).alloc (Nat.le_refl _) _).drew
  have hn1 : w1.heap[w.heap.size]? = some (.cells #[.int .i64 (o : Int), .int .i64 (s : Int), .bool u] 25 (0, 0)) := by rw [← hw1]; exact heap_alloc_new w _
  have hn0 : w0.heap[w.heap.size]? = some (.cells #[.int .i64 (o : Int), .int .i64 (s : Int), .bool u] 25 (0, 0)) := by rw [← hw0]; exact hn1
  have r0 := (hr.below hbl).more hbl.size
  have hL1 := rlay_any w0 A c w0.heap.size bs r0 (Nat.le_refl _) hA0 hl o v hv2 (by omega)
  have e1 := layN_length bs o v (by omega)
  have hlt0 := heap_lt' hn0
  obtain ⟨⟨c0, c1, c2⟩, _⟩ := blk_cells hn0
  obtain ⟨⟨d0, d1, d2⟩, _⟩ := blk_cells hn1
  have HL1 := Lib.hid hL1
  have HE1 := Lib.hid e1
  have HW1 := Lib.hid hw1
  have HW0 := Lib.hid hw0
  have HB := Lib.hid hbl
  have HA0 := Lib.hid hA0
  clear hr hA0 hs hc hv hw1 hw0 hbl hn1 hn0 r0 hL1 e1
  go_enter Try.func17, Try.ntmps17
  go_wp2_with fail
  rw [HW1.out]
  with_reducible refine (HI.out _).mono ?_
  rintro e w2 ⟨rfl, rfl⟩
  go_wp2_with fail
  with_reducible refine (HC.out _).mono ?_
  rintro e w2 ⟨rfl, rfl⟩
  go_wp2_with fail
  with_reducible refine (HP.out _).mono ?_
  rintro e w2 ⟨rfl, rfl⟩
  go_wp2_with fail
  refine wp_region_tail w0.heap.size [([0, 1, 2, 3, 5, 6, 7, 8, 9, 10, 11], 4), ([], 12)] [13, 14] [] (by kernel_rfl) (by kernel_rfl) (by kernel_rfl) (fun _ _ _ _ _ h => h) ?_
  rw [HW0.out]
  clear d0 d1 d2 HW1 HI HC HP
  have z0 : ∀ x : LaterB w0.heap.size w0, x.val.cell? ⟨w.heap.size, 0, none⟩ = some (.int .i64 (o : Int)) := fun x => (x.ext.cell (p := ⟨w.heap.size, 0, none⟩) hlt0).trans c0
  have z1 : ∀ x : LaterB w0.heap.size w0, x.val.cell? ⟨w.heap.size, 1, none⟩ = some (.int .i64 (s : Int)) := fun x => (x.ext.cell (p := ⟨w.heap.size, 1, none⟩) hlt0).trans c1
  refine tail_cons (l := ?seg1) ?hseg1 ?_
  case hseg1 => simp only [pick, List.getElem?_toArray, List.getElem?_cons_succ, List.getElem?_cons_zero]; rfl
  repeat (go_big_quiet_step (fail))
  refine wpQuiet_nil ?_
  clear z0 z1 c0 c1 c2
  refine tail_call2 (vs := #[.slice A bs.length c, .int .i64 (o : Int), .int .u64 (v : Int)]) Try.call35 rfl rfl rfl (R := fun r w' => ∃ A1 c1, r = .slice A1 bs.length c1 ∧ Rd w' w'.heap.size A1 bs.length (layN bs o v) ∧ (A1 = none → c1 = 0) ∧ Below w0.heap.size w0 w') (HL1.out.mono ?_) ?_
  · rintro e w' ⟨A1, c1, rfl, ho, hb⟩
    rw [HE1.out] at ho ⊢
    obtain ⟨hr, _, hn⟩ := own_facts ho
    exact ⟨_, rfl, hb, A1, c1, rfl, hr, hn, hb⟩
  rintro r w3 _ ⟨A1, c1, rfl, r3, hn3, hb3⟩
  refine ⟨w3.heap.size, hb3.size, ?_⟩
  have hL2 := rlay_any w3 A1 c1 w3.heap.size (layN bs o v) (by rw [HE1.out]; exact r3) (Nat.le_refl _) hn3 (by rw [HE1.out]; exact hl) (o + s - 8) v hv2 (by rw [HE1.out]; omega)
  have e2 := layN_length (layN bs o v) (o + s - 8) v (by rw [HE1.out]; omega)
  rw [HE1.out, show ((o + s - 8 : Nat) : Int) = (o : Int) + (s : Int) - 8 by omega] at hL2
  rw [HE1.out] at e2
  have HL2 := Lib.hid hL2
  have HE2 := Lib.hid e2
  clear hL2 e2
  refine tail_cons (l := ?seg2) ?hseg2 ?_
  case hseg2 => rfl
  simp only [Act.put, List.setIfInBounds_toArray, List.set_cons_zero, List.set_cons_succ]
  refine wpQuiet_nil ?_
  refine tail_call2 (vs := #[.slice A1 bs.length c1, .int .i64 ((o : Int) + (s : Int) - 8), .int .u64 (v : Int)]) Try.call35 rfl rfl rfl (R := fun r w' => ∃ A2 c2, r = .slice A2 bs.length c2 ∧ w'.ownsRow w3.heap.size 5 1 (.slice A2 bs.length c2) bs.length ((layN (layN bs o v) (o + s - 8) v).map bv) ∧ Below w3.heap.size w3 w') (HL2.out.mono ?_) ?_
  · rintro e w' ⟨A1, c1, rfl, ho, hb⟩
    rw [HE2.out] at ho ⊢
    exact ⟨_, rfl, hb, A1, c1, rfl, ho, hb⟩
  rintro r w4 _ ⟨A2, c2, rfl, ho4, hb4⟩
  refine ⟨w4.heap.size, hb4.size, ?_⟩
  refine tail_last (l := ?la3) (t := []) ?hla3 ?htl3 ?_
  case hla3 => simp only [pick, List.getElem?_toArray, List.getElem?_cons_succ, List.getElem?_cons_zero]; rfl
  case htl3 => rfl
  simp only [Act.put, List.setIfInBounds_toArray, List.set_cons_zero, List.set_cons_succ]
  repeat (go_big_quiet_step (fail))
  refine wpQuiet_nil ?_
  have HO4 := Lib.hid ho4
  have HB4 : Hid (Below w.heap.size w w4) := HB.out.trans ((hb3.trans (hb4.mono hb3.size)).mono HB.out.size)
  clear ho4 hb4 hb3 r3 hn3 HL1 HL2
  go_wp2
  go_ret2
  obtain ⟨hr, hc, hn⟩ := own_facts HO4.out
  refine ⟨A2, c2, by rw [HE2.out]; rfl, ?_, ?_, hn, HB4.out⟩
  · rw [HE2.out]; exact hr
  · rw [HE2.out]; exact hc

theorem rsetB_any (A : Option Addr) (c : Nat) (bs : List UInt8) (hr : Rd w w.heap.size A bs.length bs) (hlc : bs.length ≤ c) (hA0 : A = none → c = 0) (hl : bs.length ≤ 100000) (o s : Int) (u : Bool) (ho : -9223372036854775808 ≤ o ∧ o ≤ 9223372036854775807) (hs : -9223372036854775808 ≤ s ∧ s ≤ 9223372036854775807) (x : Option (List UInt8)) (hx : setB bs o s u = x) :
    Calls Try.prog 17 #[.slice A bs.length c, .agg #[.int .i64 o, .int .i64 s, .bool u]] w fun e w' => SlTold (x.getD bs) x.isSome w e w' := by
  subst hx
  cases h1 : isSz s with
  | false =>
    have e : setB bs o s u = none := by unfold setB; rw [if_neg (by rw [h1]; simp)]
    rw [e]
    exact rsetB_no w A c bs hr hlc hA0 hl o s u ho hs false _ h1 rfl (.inl rfl)
  | true =>
    cases h2 : could bs.length o s with
    | false =>
      have e : setB bs o s u = none := by unfold setB; rw [if_neg (by rw [h2]; simp)]
      rw [e]
      exact rsetB_no w A c bs hr hlc hA0 hl o s u ho hs true false h1 h2 (.inr ⟨rfl, rfl⟩)
    | true =>
      have g1 := (isSz_iff _).1 h1
      have g2 := (could_iff _ _ _).1 h2
      obtain ⟨p, rfl⟩ : ∃ p : Nat, o = (p : Int) := ⟨o.toNat, by omega⟩
      obtain ⟨q, rfl⟩ : ∃ q : Nat, s = (q : Int) := ⟨s.toNat, by omega⟩
      have e : setB bs (p : Int) (q : Int) u = some (layN (layN bs p (packN (q : Int) u)) (p + q - 8) (packN (q : Int) u)) := by
        unfold setB
        rw [if_pos ⟨h1, h2⟩, Int.toNat_natCast, show ((p : Int) + (q : Int) - 8).toNat = p + q - 8 by omega]
      rw [e]
      exact rsetB_yes w A c bs hr hA0 hl p q u h1 h2 _ rfl
end
end Go.Proofs.Ytodbakpjibcmiaa
