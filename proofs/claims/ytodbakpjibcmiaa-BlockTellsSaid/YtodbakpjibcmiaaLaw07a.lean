/- Layer 7's laws: the head (the document's example). -/
import Derived.Test.YtodbakpjibcmiaaSpec7
namespace Go.Proofs.Ytodbakpjibcmiaa
open Go.RowKit

theorem Ar.alloc' {w : World} {t : TypeId} {g base cap c : Nat} {A : Option Addr} {bs : List UInt8} (h : Ar w t g base cap A c bs) (o : Obj) : Ar (w.alloc o) t g base cap A c bs := h.below ((Below.refl _ _).alloc (Nat.le_refl _) o)

theorem up7_bytes : ∃ z out : List UInt8, List.replicate 248 (0 : UInt8) = z ∧ z.length = 248 ∧ out.length = 248 ∧ setB z 184 64 true = some out ∧ getB out 184 = some ⟨184, 64, true⟩ ∧ walkB out = some [⟨184, 64, true⟩] ∧ aheadB out 248 = some ⟨184, 64, true⟩ ∧ setB out 184 80 false = none := by
  have hzl : (List.replicate 248 (0 : UInt8)).length = 248 := List.length_replicate
  generalize List.replicate 248 (0 : UInt8) = z at *
  have hs := setB_of z ⟨184, 64, true⟩ (by decide) (by decide) (by rw [hzl]; decide) (by decide)
  have hg := setT_at (bs := z) (x := ⟨184, 64, true⟩) (by decide) (by decide) (by rw [hzl]; decide) (by decide)
  have hl := setT_length (bs := z) (x := ⟨184, 64, true⟩) (by decide) (by rw [hzl]; decide)
  rw [hzl] at hl
  generalize setT z ⟨184, 64, true⟩ = out at *
  have hw : walkB out = some [⟨184, 64, true⟩] := walkB_tile (by rw [hl]; exact ⟨rfl, by decide, rfl⟩) (fun x hx => by rw [List.mem_singleton] at hx; subst hx; exact hg)
  have ha := aheadB_of hg
  refine ⟨z, out, rfl, hzl, hl, hs, hg, hw, ha, ?_⟩
  unfold setB
  rw [if_neg]
  rintro ⟨_, h⟩
  have := (could_iff _ _ _).1 h
  omega

set_option maxRecDepth 100000 in
set_option maxHeartbeats 2000000 in
theorem up7_any (HG : GetC) (HA : AheadC) (HS : SetC) (HW : WalkC) (w : World) :
    Calls Try.prog 5 #[] w fun e w' => e = .returned (.bool true) ∧ Below w.heap.size w w' := by
  obtain ⟨z, out, hz, hzl, hl, hs, hg, hw, ha, hn⟩ := up7_bytes
  have HMK : ∀ W : World, (Instr.makeSlice 23 (.int .i64 248) (.int .i64 248)).run Try.prog W = .ok (.slice (some ⟨W.heap.size, 0, none⟩) 248 248) (W.alloc (.cells (rowB z) 5)) := run_mk0 248 (by omega) z hz
  have f1 : Fill (w.alloc (.cells (rowB z) 5)) w.heap.size 5 z := Fill.made w _ _
  have b1 : Below w.heap.size w (w.alloc (.cells (rowB z) 5)) := (Below.refl _ _).alloc (Nat.le_refl _) _
  have hm := arena_any (w.alloc (.cells (rowB z) 5)) 16 1024 (some ⟨w.heap.size, 0, none⟩) 248 z f1.reads (by omega) (by omega) (by omega) (by omega) (by omega)
  rw [hzl] at hm
  have HM := Lib.hid hm
  have HB1 := Lib.hid b1
  have HZL := Lib.hid hzl
  have HL := Lib.hid hl
  have H1 := Lib.hid hs
  have H2 := Lib.hid hg
  have H3 := Lib.hid hw
  have H4 := Lib.hid ha
  have H5 := Lib.hid hn
  have HG := Lib.hid HG
  have HA := Lib.hid HA
  have HS := Lib.hid HS
  have HW := Lib.hid HW
  obtain ⟨B0, hB0⟩ : ∃ B0, w.heap.size = B0 := ⟨_, rfl⟩
  have HB0 := Lib.hid hB0
  clear hz hzl hl hs hg hw ha hn f1 b1 hm hB0
  go_enter Try.func5, Try.ntmps5
  go_wp2_with fail
  refine HM.out.mono ?_
  rintro e w1 ⟨g, A, c, rfl, har, hb, hgg, hAA⟩
  have hk1 : Below w.heap.size w w1 := HB1.out.trans (hb.mono HB1.out.size)
  have k0 : w.heap.size ≤ g := Nat.le_trans HB1.out.size hgg
  have k1 : ∀ a, A = some a → w.heap.size ≤ a.block := fun a e => Nat.le_trans HB1.out.size (hAA a e)
  have HSet := Lib.hid (HS.out w1 g 16 1024 c A z 184 64 true _ har (by omega) (by have := HZL.out; omega) (by omega) (by omega) H1.out)
  have HK1 := Lib.hid hk1
  have HX := Lib.hid (And.intro k0 k1)
  clear HMK HB1 HM har hb hgg hAA hk1 k0 k1
  go_wp2_with fail
  refine HSet.out.mono ?_
  rintro e w2 ⟨rfl, hbe⟩
  obtain ⟨A2, c2, har, hb2, hA2⟩ := hbe.below (B := w.heap.size) HX.out.1 HX.out.2 HK1.out.size
  have HX2 := Lib.hid (And.intro HX.out.1 hA2)
  have HK2 := Lib.hid (HK1.out.trans hb2)
  have HGet := Lib.hid (HG.out w2 g 16 1024 c2 A2 out 184 _ har (by omega) (by have := HL.out; omega) (by omega) H2.out)
  have HAr := Lib.hid har
  clear HSet HX HK1 hbe har hb2 hA2
  dsimp only [errV]
  go_wp2_with fail
  refine HGet.out.mono ?_
  rintro e w3 ⟨rfl, hb⟩
  have HAr3 := Lib.hid (HAr.out.below hb)
  have HK3 := Lib.hid (HK2.out.trans (hb.mono HK2.out.size))
  clear HGet HAr HK2 hb
  dsimp only [errV, bkV, Bk.val, Option.isSome]
  have HN3 := Lib.hid (heap_alloc_new w3 (.cells #[.int .i64 184, .int .i64 64, .bool true] 25))
  have HB3 := Lib.hid ((Below.refl B0 w3).alloc (by have := HK3.out.size; have := HB0.out; omega) (.cells #[.int .i64 184, .int .i64 64, .bool true] 25))
  go_wp2_with fail
  refine (HW.out _ g 16 1024 c2 A2 out _ (HAr3.out.alloc' _) (by omega) (by have := HL.out; omega) H3.out).mono ?_
  rintro e w4 ⟨A4, c4, rfl, _, hb⟩
  have n4 := (hb.block w3.heap.size (heap_lt HN3.out)).trans HN3.out
  have hk4 : Below w.heap.size w w4 := by
    have hw0 := HB0.out
    have h3 := HK3.out.size
    rw [hw0] at h3 ⊢
    refine Below.trans (b := w3) (by rw [← hw0]; exact HK3.out) (HB3.out.trans (hb.mono ?_))
    have := HB3.out.size
    omega
  have HAr4 := Lib.hid ((HAr3.out.alloc' _).below hb)
  have HN4 := Lib.hid n4
  have HK4 := Lib.hid hk4
  have HAh := Lib.hid (HA.out w4 g 16 1024 c2 A2 out 248 _ HAr4.out (by omega) (by have := HL.out; omega) (by omega) H4.out)
  generalize w3.heap.size = g3 at *
  clear HK3 HB3 HN3 HAr3 hb n4 hk4
  dsimp only [errV, Option.isSome, Option.getD, List.length_cons, List.length_nil]
  go_wp2_with fail
  refine HAh.out.mono ?_
  rintro e w5 ⟨rfl, hb⟩
  have n5 := (hb.block g3 (heap_lt HN4.out)).trans HN4.out
  have hk5 := HK4.out.trans (hb.mono HK4.out.size)
  have HAr5 := Lib.hid (HAr4.out.below hb)
  have HK5 := Lib.hid hk5
  have hlt5 := heap_lt n5
  obtain ⟨w6, hw6⟩ : ∃ w6, w5.alloc (.cells #[.int .i64 184, .int .i64 64, .bool true] 25) = w6 := ⟨_, rfl⟩
  have b56 : Below w5.heap.size w5 w6 := by rw [← hw6]; exact (Below.refl _ _).alloc (Nat.le_refl _) _
  have n6 := (b56.block g3 hlt5).trans n5
  have m6 : w6.heap[w5.heap.size]? = some (.cells #[.int .i64 184, .int .i64 64, .bool true] 25 (0, 0)) := by rw [← hw6]; exact heap_alloc_new w5 _
  have HK6 := Lib.hid (hk5.trans (b56.mono HK5.out.size))
  have HSet := Lib.hid (HS.out w6 g 16 1024 c2 A2 out 184 80 false _ (HAr5.out.below b56) (by omega) (by have := HL.out; omega) (by omega) (by omega) H5.out)
  have q0 : ∀ o : Obj, (w5.alloc o).cell? ⟨g3, 0, none⟩ = some (.int .i64 184) ∧ (w5.alloc o).cell? ⟨g3, 1, none⟩ = some (.int .i64 64) ∧ (w5.alloc o).cell? ⟨g3, 2, none⟩ = some (.bool true) := fun o =>
    (blk_cells ((((Below.refl w5.heap.size w5).alloc (Nat.le_refl _) o).block g3 hlt5).trans n5)).1
  have c0 := fun o => (q0 o).1
  have c1 := fun o => (q0 o).2.1
  have c2' := fun o => (q0 o).2.2
  obtain ⟨⟨d0, d1, d2⟩, e0, e1, e2⟩ := blk_cells m6
  clear HAr4 HN4 HK4 HAh hb n5 hk5 hlt5 b56 n6 m6 HAr5 q0
  subst hw6
  dsimp only [errV, bkV, Bk.val, Option.isSome]
  go_wp2_with fail
  refine HSet.out.mono ?_
  rintro e w7 ⟨rfl, hb⟩
  have HK7 := Lib.hid (HK6.out.trans (hb.mono HK6.out.size))
  clear HSet HK6 hb
  dsimp only [errV]
  go_wp2_with fail
  refine (code_err w7 1 (by omega) (by omega)).mono ?_
  rintro e w8 ⟨rfl, rfl⟩
  go_wp2
  go_ret
  exact ⟨rfl, HK7.out⟩
end Go.Proofs.Ytodbakpjibcmiaa
