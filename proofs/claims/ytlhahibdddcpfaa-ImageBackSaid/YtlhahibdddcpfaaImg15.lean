/- The document's summed. -/
import Derived.Test.YtlhahibdddcpfaaImg14
namespace Go.Proofs.Ytlhahibdddcpfaa
open Go.RowKit

theorem strB_eq (a b : List UInt8) : ((strB a).toList == (strB b).toList) = decide (a = b) := by
  unfold strB
  simp
  by_cases h : a = b <;> simp [h]
theorem sumAt_iff {b : List UInt8} {i j : Nat} (hj : j + 4 ≤ b.length) : decide (sum4 ((b.drop i).take (j - i)) = (b.drop j).take 4) = sumAt b i j := by
  have hl : ((b.drop j).take 4).length = 4 := by rw [List.length_take, List.length_drop]; omega
  unfold sumAt sum4
  have h1 := numB_lowB 4 (moreN 0 ((b.drop i).take (j - i)))
  rw [Nat.mod_eq_of_lt (by have := moreN_lt 0 ((b.drop i).take (j - i)); omega)] at h1
  have h2 := lowB_numB ((b.drop j).take 4)
  rw [hl] at h2
  by_cases h : lowB 4 (moreN 0 ((b.drop i).take (j - i))) = (b.drop j).take 4
  · rw [decide_eq_true h, ← h, h1]
    exact (beq_self_eq_true _).symm
  · rw [decide_eq_false h]
    symm
    rw [beq_eq_false_iff_ne]
    intro e
    rw [← e, h2] at h
    exact h rfl
set_option maxRecDepth 100000 in
set_option maxHeartbeats 1000000 in
theorem rsummed_any (w : World) (A : Option Addr) (n c B : Nat) (b : List UInt8) (i j : Nat) (hr : Rd w B A n b) (hB : B ≤ w.heap.size) (hnc : n ≤ c) (hc : c ≤ 9223372036854775807) (hn : n ≤ 900000) (hij : i ≤ j) (hj : j + 4 ≤ n) (y : Bool) (hy : sumAt b i j = y) :
    Calls Try.prog 33 #[.slice A n c, .int .i64 (i : Int), .int .i64 (j : Int)] w fun e w' => e = .returned (.bool y) ∧ Below w.heap.size w w' := by
  have hbl : b.length = n := hr.1
  rw [← sumAt_iff (by omega)] at hy
  obtain ⟨g, off, rfl, _⟩ := hr.2 (by omega)
  have HF := Lib.hid (fun V (hV : Below w.heap.size w V) => rfour_any V (some ⟨g, off + i, none⟩) (j - i) (c - i) w.heap.size _ (((hr.more hB).sub i (j - i) (by omega)).below hV) (by omega))
  have HR4 := Lib.hid ((hr.more hB).sub j 4 (by omega))
  obtain ⟨s, hs⟩ : ∃ s, sum4 ((b.drop i).take (j - i)) = s := ⟨_, rfl⟩
  obtain ⟨t, ht⟩ : ∃ t, (b.drop j).take 4 = t := ⟨_, rfl⟩
  rw [hs, ht] at hy
  rw [hs] at HF
  rw [ht] at HR4
  have HY : Hid (((strB s).toList == (strB t).toList) = y) := (show _ = y by rw [strB_eq, hy])
  obtain ⟨S, hS⟩ : ∃ S, strB s = S := ⟨_, rfl⟩
  obtain ⟨T, hT⟩ : ∃ T, strB t = T := ⟨_, rfl⟩
  rw [hS, hT] at HY
  have HS := Lib.hid hS
  have HT := Lib.hid hT
  have h1 : (i : Int) ≤ (j : Int) := by omega
  have h2 : (j : Int) ≤ (c : Int) := by omega
  have h3 : (i : Int) < (c : Int) := by omega
  have h4 : (j : Int) + 4 ≤ (c : Int) := by omega
  have h5 : (j : Int) < (c : Int) := by omega
  have h6 : j ≤ 900000 := by omega
  clear hr hy hs ht hS hT hbl
  go_enter Try.func33, Try.ntmps33
  obtain ⟨wd, hwd⟩ : ∃ wd, w.drew = wd := ⟨_, rfl⟩
  have HWD := Lib.hid hwd
  have hbd : Below w.heap.size w wd := by rw [← hwd]; exact (Below.refl _ _).drew
  have HFD := Lib.hid (HF.out wd hbd)
  have HRD := Lib.hid (((HR4.out.below hbd).more hbd.size))
  have HBD := Lib.hid hbd
  clear hwd hbd HF
  go_wp2_with fail
  refine wp_region_tail wd.heap.size [([0, 1, 2, 3, 6, 7, 8, 9, 10, 11], 4)] [5, 12, 13] [] (by kernel_rfl) (by kernel_rfl) (by kernel_rfl) (fun _ _ _ _ _ h => h) ?_
  rw [HWD.out]
  have q0 : ∀ z : LaterB wd.heap.size wd, (convert 31 9 (.slice (some ⟨g, off + j, none⟩) 4 (c - j))).run Try.prog z.val = .ok (.string T) z.val := fun z => by rw [← HT.out]; exact conv_rd (HRD.out.below z.ext)
  refine tail_cons (l := ?segA) ?hsegA ?_
  case hsegA => simp only [pick, List.getElem?_toArray, List.getElem?_cons_succ, List.getElem?_cons_zero]; rfl
  repeat (go_big_quiet_step (fail))
  refine wpQuiet_nil ?_
  clear q0
  refine tail_call2 (vs := #[.slice (some ⟨g, off + i, none⟩) (j - i) (c - i)]) Try.call28 rfl rfl rfl (R := fun r w' => ∃ A c, r = .slice A 4 c ∧ w'.ownsRow wd.heap.size 5 1 (.slice A 4 c) 4 (s.map bv) ∧ Below wd.heap.size wd w') (HFD.out.mono ?_) ?_
  · rintro e w' ⟨A, c, rfl, _, ho, hb⟩
    exact ⟨_, rfl, hb, A, c, rfl, ho, hb⟩
  rintro r w8 _ ⟨A8, c8, rfl, ho8, hb8⟩
  have HR8 := Lib.hid (own_reads ho8)
  have HE := Lib.hid (HBD.out.trans (hb8.mono HBD.out.size))
  refine ⟨w8.heap.size, hb8.size, ?_⟩
  clear ho8 hb8
  simp only [Act.put, List.setIfInBounds_toArray, List.set_cons_zero, List.set_cons_succ]
  have q4 : ∀ z : LaterB w8.heap.size w8, (convert 31 9 (.slice A8 4 c8)).run Try.prog z.val = .ok (.string S) z.val := fun z => by rw [← HS.out]; exact conv_rd (HR8.out.below z.ext)
  refine tail_last (l := ?lastB) (t := []) ?hlastB ?htlastB ?_
  case hlastB => simp only [pick, List.getElem?_toArray, List.getElem?_cons_succ, List.getElem?_cons_zero]; rfl
  case htlastB => rfl
  repeat (go_big_quiet_step (fail))
  refine wpQuiet_nil ?_
  go_wp2
  go_ret
  exact ⟨ret_bool HY.out, HE.out⟩
end Go.Proofs.Ytlhahibdddcpfaa
