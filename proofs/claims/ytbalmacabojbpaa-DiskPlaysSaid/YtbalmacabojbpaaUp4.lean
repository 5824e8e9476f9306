/- The example of layer 4: it tells true and writes nothing that was there. -/
import Derived.Test.YtbalmacabojbpaaDisk4
namespace Go.Proofs.Ytbalmacabojbpaa
open Go.RowKit

theorem conv_B {w : World} {B n : Nat} {A : Option Addr} {bs : List UInt8} (h : Rd w B A n bs) (c : Nat) (x : LaterB B w) : (convert 29 9 (.slice A n c)).run Try.prog x.val = .ok (.string (strB bs)) x.val := conv_rd (h.below x.ext)

theorem Rd.own_block {w : World} {B n b o : Nat} {bs : List UInt8} (h : Rd w B (some ⟨b, o, none⟩) n bs) : Rd w (b + 1) (some ⟨b, o, none⟩) n bs :=
  ⟨h.1, fun hn => by
    obtain ⟨b', o', e, _, hc⟩ := h.2 hn
    cases e
    exact ⟨b, o, rfl, by omega, hc⟩⟩

/-- Blocks from B on, below N. -/
def iv (B N k : Nat) : Prop := B ≤ k ∧ k < N

theorem bool_inf : (Try.prog.info? 4).map (fun i => (i.zero, i.size, i.bytes)) = some (some (.bool false), 1, 1) := by kernel_rfl

theorem Rd.own' {w : World} {base n c : Nat} {A : Option Addr} {bs : List UInt8} (h : w.ownsRow base 5 1 (.slice A n c) n (bs.map bv)) : Rd w w.heap.size A n bs ∧ ∀ a, A = some a → base ≤ a.block := by
  obtain ⟨A', c', e, _, hr⟩ := own_any h
  injection e with e1
  subst e1
  exact ⟨hr, fun a e => (h.lt a.block (by rw [e]; rfl)).1⟩

set_option maxRecDepth 100000 in
set_option maxHeartbeats 2000000 in
theorem up4_any (w : World) : Calls Try.prog 14 #[] w fun e w' => e = .returned (.bool true) ∧ Below w.heap.size w w' := by
  have HN := Lib.hid (dnew_yes w 2 (by omega) (by omega))
  go_enter Try.func14, Try.ntmps14
  go_wp2_with fail
  refine HN.out.mono ?_
  rintro e w1 ⟨rfl, k1, hb1⟩
  obtain ⟨g, hg⟩ : ∃ g, w.heap.size + 1 = g := ⟨_, rfl⟩
  rw [hg] at k1 ⊢
  obtain ⟨z, hz⟩ : ∃ z, List.replicate (2 * 512) (0 : UInt8) = z := ⟨_, rfl⟩
  have hzl : z.length = 1024 := by rw [← hz]; simp
  rw [hz] at k1
  have HZ := Lib.hid hz
  have K1 := Lib.hid k1
  have HB1 := Lib.hid hb1
  have HZL := Lib.hid hzl
  clear HN hg k1 hb1 hz hzl
  go_wp2_with fail
  refine (sector_any 7 w1).mono ?_
  rintro e w2 ⟨rfl, f2, hb2⟩
  obtain ⟨sv, hsv⟩ : ∃ sv, List.replicate 512 (7 : UInt8) = sv := ⟨_, rfl⟩
  have hsl : sv.length = 512 := by rw [← hsv]; simp
  rw [hsv] at f2
  have r2 := f2.reads
  rw [hsl] at r2
  have HW := Lib.hid (dwrite_neg (K1.out.below hb2) (by rw [HZL.out]; omega) (by simp) (by omega) 1 (by rw [HZL.out]; omega) (some ⟨w1.heap.size, 0, none⟩) 512 sv hsl r2)
  have HB2 := Lib.hid (HB1.out.trans (hb2.mono HB1.out.size))
  have HSV := Lib.hid hsv
  have HSL := Lib.hid hsl
  have HZ2 := Lib.hid hb2.size
  clear f2 hb2 r2 hsl hsv
  go_wp2_with fail
  refine HW.out.mono ?_
  rintro e w3 ⟨rfl, ⟨W, cw, b, cb, k3⟩, t3⟩
  have k3' : Dk (iv w.heap.size w3.heap.size) w3 g w.heap.size (2 * 512) W cw z [⟨1, b, cb, sv⟩] (-1) false := k3.more fun j hj => by
    have h1 := (k3.foot hj)
    refine ⟨?_, h1.2⟩
    rcases h1.1 with (h | h) | h
    · cases h
    · exact h.1
    · have := HB2.out.size; omega
  have b3 : Below w.heap.size w w3 := HB2.out.trans (t3.below (fun j hj => by rcases hj with h | h; cases h; exact h.1) HB2.out.size)
  have hr3 := dread_ok k3' (by rw [HZL.out]; omega) 1 (by rw [HZL.out]; omega)
  have e3 : lastD z ([⟨1, b, cb, sv⟩].map Wr.two) 1 = sv := lastD_at z _ 1 0 (1, sv) rfl rfl (by simp)
  rw [e3] at hr3
  have HR3 := Lib.hid hr3
  have K3 := Lib.hid k3'
  have HB3 := Lib.hid b3
  clear k3 k3' t3 b3 hr3 e3 HW
  go_wp2_with fail
  refine HR3.out.mono ?_
  rintro e w4 ⟨A4, c4, rfl, o4, hb4⟩
  rw [HSL.out] at o4 ⊢
  obtain ⟨r4, hA4⟩ := Rd.own' o4
  have R4 := Lib.hid r4
  have HA4 := Lib.hid hA4
  have K4 := Lib.hid (K3.out.below hb4)
  have HB4 := Lib.hid (HB3.out.trans (hb4.mono HB3.out.size))
  have HZ4 := Lib.hid hb4.size
  clear o4 hb4 r4 hA4 HR3
  obtain ⟨w5, hw5⟩ : ∃ w5, w4.alloc (.cells #[.bool false] 4) = w5 := ⟨_, rfl⟩
  have b5 : Below w4.heap.size w4 w5 := by rw [← hw5]; exact (Below.refl _ _).alloc (Nat.le_refl _) _
  have n5 : w5.heap[w4.heap.size]? = some (.cells #[.bool false] 4 (0, 0)) := by rw [← hw5]; exact heap_alloc_new w4 _
  have kp5 : Kp (iv w.heap.size w3.heap.size) w5 (some ⟨w4.heap.size, 0, none⟩) [false] := fun _ => ⟨w4.heap.size, 0, rfl, heap_lt n5, (fun h => by have := h.2; have := HZ4.out; omega), fun j u hu => by
    rw [Nat.zero_add, cell_of_row w5 _ j _ _ (0, 0) n5]
    match j, hu with
    | 0, hu => simp at hu; subst hu; rfl⟩
  have hbo := dboot_any (ck := 1) (K4.out.below b5) (by rw [HZL.out]; omega) kp5 (by simp)
  have HBO := Lib.hid hbo
  have R5 := Lib.hid ((R4.out.below b5).more b5.size)
  have HB5 := Lib.hid (HB4.out.trans (b5.mono HB4.out.size))
  have HW5 := Lib.hid hw5
  have HZ5 := Lib.hid b5.size
  clear b5 n5 kp5 hbo hw5 R4
  go_wp2_with fail
  rw [HW5.out]
  refine HBO.out.mono ?_
  rintro e w6 ⟨rfl, k6, t6⟩
  have e6 : stand z (kept ([⟨1, b, cb, sv⟩].map Wr.two) [false]) = z := rfl
  rw [e6] at k6
  have r6 : Rd w6 w6.heap.size A4 512 sv := R5.out.tch t6 (fun a ha h => by have := HA4.out a ha; have := h.2; omega)
  have b6 : Below w.heap.size w w6 := HB5.out.trans (t6.below (fun j hj => hj.1) HB5.out.size)
  have hr6 := dread_ok k6 (by rw [HZL.out]; omega) 1 (by rw [HZL.out]; omega)
  obtain ⟨sz, hsz⟩ : ∃ sz, List.replicate 512 (0 : UInt8) = sz := ⟨_, rfl⟩
  have hszl : sz.length = 512 := by rw [← hsz]; simp
  have e7 : lastD z (([] : List Wr).map Wr.two) 1 = sz := by
    rw [lastD_none _ _ _ (by simp), ← HZ.out, ← hsz]
    simp
  rw [e7] at hr6
  have HR6 := Lib.hid hr6
  have R6 := Lib.hid r6
  have HB6 := Lib.hid b6
  have HSZ := Lib.hid hsz
  have HSZL := Lib.hid hszl
  clear k6 t6 e6 r6 b6 hr6 e7 hsz hszl R5 HBO K4 K3 K1
  go_wp2_with fail
  refine HR6.out.mono ?_
  rintro e w7 ⟨A7, c7, rfl, o7, hb7⟩
  rw [HSZL.out] at o7 ⊢
  obtain ⟨r7, _⟩ := Rd.own' o7
  have r47 := (R6.out.below hb7).more hb7.size
  have HB7 := Lib.hid (HB6.out.trans (hb7.mono HB6.out.size))
  clear o7 hb7 R6 HR6
  go_wp2_with fail
  refine wp_region_tail w7.heap.size [([0, 1, 2, 3, 4, 5, 6, 7, 8, 9, 10, 11, 12], 13), ([14, 15, 16, 17, 18, 19], 20), ([21, 22, 23, 24], 25)] [26, 27, 28] [] (by kernel_rfl) (by kernel_rfl) (by kernel_rfl) (fun _ _ _ _ _ h => h) ?_
  obtain ⟨w8, hw8⟩ : ∃ w8, w7.drew = w8 := ⟨_, rfl⟩
  have hz8 : w7.heap.size = w8.heap.size := by rw [← hw8]; rfl
  have r8 : Rd w8 w8.heap.size A7 512 sz := by rw [← hw8]; exact r7.drew
  have r48 : Rd w8 w8.heap.size A4 512 sv := by rw [← hw8]; exact r47.drew
  have b8 : Below w.heap.size w w8 := by rw [← hw8]; exact HB7.out.drew
  rw [hw8, hz8]
  clear hw8 hz8 r7 r47 HB7
  have q1 := conv_B r48
  refine tail_cons (l := ?seg1) ?hseg1 ?_
  case hseg1 => simp only [pick, List.getElem?_toArray, List.getElem?_cons_succ, List.getElem?_cons_zero]; rfl
  repeat (go_big_quiet_step (fail))
  refine wpQuiet_nil ?_
  clear q1
  refine tail_call (vs := #[.int .u8 7]) Try.call24 rfl rfl rfl (R := fun r w' => r = .slice (some ⟨w8.heap.size, 0, none⟩) 512 512 ∧ Rd w' (w8.heap.size + 1) (some ⟨w8.heap.size, 0, none⟩) 512 sv ∧ w8.heap.size < w'.heap.size) ((sector_any 7 w8).mono ?_) (w8.heap.size + 1) (by omega) ?_
  · rintro e w' ⟨rfl, f, hb⟩
    have := f.reads
    rw [HSV.out, HSL.out] at this
    exact ⟨_, rfl, hb, rfl, this.own_block, f.lt⟩
  rintro r w9 hb9 ⟨rfl, r9, l9⟩
  have r8' := (r8.below hb9).more (B' := w8.heap.size + 1) (by omega)
  have q1 := conv_B r9
  have q2 := conv_B r8'
  refine tail_cons (l := ?seg2) ?hseg2 ?_
  case hseg2 => simp only [pick, List.getElem?_toArray, List.getElem?_cons_succ, List.getElem?_cons_zero]; rfl
  simp only [Act.put, List.setIfInBounds_toArray, List.set_cons_zero, List.set_cons_succ]
  repeat (go_big_quiet_step (fail))
  refine wpQuiet_nil ?_
  clear q1 q2
  refine tail_call (vs := #[.int .u8 0]) Try.call24 rfl rfl rfl (R := fun r w' => r = .slice (some ⟨w9.heap.size, 0, none⟩) 512 512 ∧ Rd w' (w9.heap.size + 1) (some ⟨w9.heap.size, 0, none⟩) 512 sz) ((sector_any 0 w9).mono ?_) (w9.heap.size + 1) (by omega) ?_
  · rintro e w' ⟨rfl, f, hb⟩
    have := f.reads
    rw [HSZ.out, HSZL.out] at this
    exact ⟨_, rfl, hb.mono (by omega), rfl, this.own_block⟩
  rintro r w10 hb10 ⟨rfl, r10⟩
  have q1 := conv_B r10
  refine tail_cons (l := ?seg3) ?hseg3 ?_
  case hseg3 => simp only [pick, List.getElem?_toArray, List.getElem?_cons_succ, List.getElem?_cons_zero]; rfl
  simp only [Act.put, List.setIfInBounds_toArray, List.set_cons_zero, List.set_cons_succ]
  repeat (go_big_quiet_step (fail))
  refine wpQuiet_nil ?_
  clear q1
  refine tail_call (vs := #[.int .i64 1]) Try.call16 rfl rfl rfl (R := fun r w' => r = .pointer none ∧ w' = w10) ((dnew_no w10 1 (by omega)).mono ?_) (w9.heap.size + 1) (by omega) ?_
  · rintro e w' ⟨rfl, rfl⟩
    exact ⟨_, rfl, Below.refl _ _, rfl, rfl⟩
  rintro r w11 _ ⟨rfl, rfl⟩
  refine tail_last (l := ?la4) (t := []) ?hla4 ?htl4 ?_
  case hla4 => simp only [pick, List.getElem?_toArray, List.getElem?_cons_succ, List.getElem?_cons_zero]; rfl
  case htl4 => rfl
  simp only [Act.put, List.setIfInBounds_toArray, List.set_cons_zero, List.set_cons_succ]
  repeat (go_big_quiet_step (fail))
  refine wpQuiet_nil ?_
  go_wp2
  go_ret
  exact ⟨rfl, (b8.trans (hb9.mono b8.size)).trans (hb10.mono (by have := b8.size; omega))⟩
end Go.Proofs.Ytbalmacabojbpaa
