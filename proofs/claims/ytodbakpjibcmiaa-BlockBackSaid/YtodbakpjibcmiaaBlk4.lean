/- The contract of the program's Set: both tags of a block, all ways. -/
import Derived.Test.YtodbakpjibcmiaaBlk2
namespace Go.Proofs.Ytodbakpjibcmiaa
open Go.RowKit

theorem layN_swap (bs : List UInt8) (o v e k : Nat) (h1 : o + 8 ≤ e) (h2 : e + 8 ≤ bs.length) : layN (layN bs e k) o v = layN (layN bs o v) e k := by
  have hv := lowB_length 8 v
  have hk := lowB_length 8 k
  unfold layN lay
  rw [hv, hk]
  refine List.ext_getElem? fun i => ?_
  simp only [List.getElem?_append, List.length_append, List.length_take, List.length_drop, List.getElem?_take, List.getElem?_drop, hv, hk]
  repeat' split
  all_goals first | rfl | omega | (congr 1; omega) | skip
theorem Became.trans {t : TypeId} {g base cap c' : Nat} {A A' : Option Addr} {b1 b2 : List UInt8} {w w1 w2 : World} (h : Ar w1 t g base cap A' c' b1) (ht : Tch (foot g A) w w1) (hA : A' = A ∨ ∀ a, A' = some a → w.heap.size ≤ a.block) (k : Became t g base cap A' b2 w1 w2) : Became t g base cap A b2 w w2 := by
  obtain ⟨A2, c2, k1, k2, k3⟩ := k
  refine ⟨A2, c2, k1, ht.trans k2 (fun i hi hf => ?_), ?_⟩
  · rcases hf with rfl | ⟨a, e, rfl⟩
    · exact .inl rfl
    · rcases hA with hA | hA
      · exact .inr ⟨a, hA ▸ e, rfl⟩
      · exact absurd (hA a e) (by omega)
  · rcases k3 with k3 | k3
    · rcases hA with hA | hA
      · exact .inl (k3.trans hA)
      · exact .inr fun a ha => hA a (k3 ▸ ha)
    · exact .inr fun a ha => Nat.le_trans ht.size (k3 a ha)

section
variable {w : World} {g base cap c : Nat} {A : Option Addr} {bs : List UInt8}
set_option maxHeartbeats 1000000 in
theorem set_1 (w : World) (g : Nat) (o s : Int) (hs : -9223372036854775808 ≤ s ∧ s ≤ 9223372036854775807) (u : Bool) (m : Nat) (hm : packN s u = m) (h0 : m = 0) :
    Calls Try.prog 16 #[.pointer (some ⟨g, 0, none⟩), .agg #[.int .i64 o, .int .i64 s, .bool u]] w fun e w' => e = .returned (errV false 1) ∧ Below w.heap.size w w' := by
  obtain ⟨w1, hw1⟩ : ∃ w1, w.alloc (.cells #[.int .i64 o, .int .i64 s, .bool u] 25) = w1 := ⟨_, rfl⟩
  have hb1 : Below w.heap.size w w1 := by rw [← hw1]; exact (Below.refl _ _).alloc (Nat.le_refl _) _
  have hn1 : w1.heap[w.heap.size]? = some (.cells #[.int .i64 o, .int .i64 s, .bool u] 25 (0, 0)) := by rw [← hw1]; exact heap_alloc_new w _
  have HP := Lib.hid (tpack_any w1 s u (by omega) m hm)
  have HW1 := Lib.hid hw1
  have HB1 := Lib.hid hb1
  have HN1 := Lib.hid hn1
  subst h0
  clear hm hw1 hb1 hn1
  go_enter Try.func16, Try.ntmps16
  obtain ⟨⟨c0, c1, c2⟩, f0, f1, f2⟩ := blk_cells HN1.out
  go_wp2_with fail
  rw [HW1.out]
  go_wp2_with fail
  with_reducible refine HP.out.mono ?_
  rintro e w2 ⟨rfl, rfl⟩
  go_wp2
  go_ret
  exact ⟨rfl, HB1.out⟩

set_option maxHeartbeats 1000000 in
theorem set_2 (w : World) (g : Nat) (o : Int) (ho : -9223372036854775808 ≤ o ∧ o ≤ 9223372036854775807) (s : Int) (hs : -9223372036854775808 ≤ s ∧ s ≤ 9223372036854775807) (u : Bool) (m : Nat) (hm : packN s u = m) (h0 : m ≠ 0) (hc : plc o = false) :
    Calls Try.prog 16 #[.pointer (some ⟨g, 0, none⟩), .agg #[.int .i64 o, .int .i64 s, .bool u]] w fun e w' => e = .returned (errV false 1) ∧ Below w.heap.size w w' := by
  obtain ⟨w1, hw1⟩ : ∃ w1, w.alloc (.cells #[.int .i64 o, .int .i64 s, .bool u] 25) = w1 := ⟨_, rfl⟩
  have hb1 : Below w.heap.size w w1 := by rw [← hw1]; exact (Below.refl _ _).alloc (Nat.le_refl _) _
  have hn1 : w1.heap[w.heap.size]? = some (.cells #[.int .i64 o, .int .i64 s, .bool u] 25 (0, 0)) := by rw [← hw1]; exact heap_alloc_new w _
  have HP := Lib.hid (tpack_any w1 s u (by omega) m hm)
  have HC := Lib.hid (isplace_any w1 o ho false hc)
  have hm0 : ((m : Int) == 0) = false := by rw [beq_eq_false_iff_ne]; omega
  have HW1 := Lib.hid hw1
  have HB1 := Lib.hid hb1
  have HN1 := Lib.hid hn1
  clear hm hw1 hb1 hn1 h0 hc
  go_enter Try.func16, Try.ntmps16
  obtain ⟨⟨c0, c1, c2⟩, f0, f1, f2⟩ := blk_cells HN1.out
  go_wp2_with fail
  rw [HW1.out]
  go_wp2_with fail
  with_reducible refine HP.out.mono ?_
  rintro e w2 ⟨rfl, rfl⟩
  go_wp2_with fail
  with_reducible refine HC.out.mono ?_
  rintro e w2 ⟨rfl, rfl⟩
  go_wp2
  go_ret
  exact ⟨rfl, HB1.out⟩

set_option maxHeartbeats 1000000 in
theorem set_3 (h : Ar w 73 g base cap A c bs) (hb : base ≤ 4611686018427387904) (hl : bs.length ≤ 16384) (o : Int) (ho : -9223372036854775808 ≤ o ∧ o ≤ 9223372036854775807) (s : Int) (hs : -9223372036854775808 ≤ s ∧ s ≤ 9223372036854775807) (u : Bool) (m : Nat) (hm : packN s u = m) (hm2 : m < 18446744073709551616) (h0 : m ≠ 0) (hc : plc o = true) (hss : 32 ≤ s ∧ s ≤ 16384) (hlt : (bs.length : Int) < o + s) :
    Calls Try.prog 16 #[.pointer (some ⟨g, 0, none⟩), .agg #[.int .i64 o, .int .i64 s, .bool u]] w fun e w' => e = .returned (errV false 1) ∧ Below w.heap.size w w' := by
  obtain ⟨w1, hw1⟩ : ∃ w1, w.alloc (.cells #[.int .i64 o, .int .i64 s, .bool u] 25) = w1 := ⟨_, rfl⟩
  have hb1 : Below w.heap.size w w1 := by rw [← hw1]; exact (Below.refl _ _).alloc (Nat.le_refl _) _
  have hn1 : w1.heap[w.heap.size]? = some (.cells #[.int .i64 o, .int .i64 s, .bool u] 25 (0, 0)) := by rw [← hw1]; exact heap_alloc_new w _
  have h1 := h.below hb1
  have HP := Lib.hid (tpack_any w1 s u (by omega) m hm)
  have HC := Lib.hid (isplace_any w1 o ho true hc)
  have hm0 : ((m : Int) == 0) = false := by rw [beq_eq_false_iff_ne]; omega
  have hpl := (plc_iff o).1 hc
  obtain ⟨z, hz⟩ : ∃ z, wrap64 (wrap64 (o + s) - 8) = z := ⟨_, rfl⟩
  have hzb : -9223372036854775808 ≤ z ∧ z ≤ 9223372036854775807 ∧ (z < 0 ∨ (bs.length : Int) < z + 8) := by rw [← hz]; unfold wrap64; omega
  have HZ := Lib.hid hz
  have HA := Lib.hid (address_any h1 z)
  have HS := Lib.hid (setword_no h1 (by omega) (adr base z) m (adr_lt _ _) hm2 (adr_neg base hb z (by omega) bs.length 8 (by omega) (by omega) hzb.2.2))
  have HW1 := Lib.hid hw1
  have HB1 := Lib.hid hb1
  have HN1 := Lib.hid hn1
  clear hm hw1 hb1 hn1 h0 hc h1 h hz hpl
  go_enter Try.func16, Try.ntmps16
  obtain ⟨⟨c0, c1, c2⟩, f0, f1, f2⟩ := blk_cells HN1.out
  go_wp2_with fail
  rw [HW1.out]
  go_wp2_with fail
  with_reducible refine HP.out.mono ?_
  rintro e w2 ⟨rfl, rfl⟩
  go_wp2_with fail
  with_reducible refine HC.out.mono ?_
  rintro e w2 ⟨rfl, rfl⟩
  go_wp2_with fail
  rw [HZ.out]
  with_reducible refine HA.out.mono ?_
  rintro e w2 ⟨rfl, rfl⟩
  go_wp2_with fail
  with_reducible refine HS.out.mono ?_
  rintro e w2 ⟨rfl, hb2⟩
  have HB2 := Lib.hid (HB1.out.trans (hb2.mono HB1.out.size))
  clear hb2
  go_wp2
  go_ret
  exact ⟨rfl, HB2.out⟩

set_option maxHeartbeats 1000000 in
theorem set_4 (h : Ar w 73 g base cap A c bs) (hb : base ≤ 4611686018427387904) (hl : bs.length ≤ 16384) (o s : Nat) (u : Bool) (m : Nat) (hm : packN (s : Int) u = m) (hm2 : m < 18446744073709551616) (h0 : m ≠ 0) (hc : plc (o : Int) = true) (hss : 32 ≤ s ∧ s ≤ 16384) (hle : o + s ≤ bs.length) :
    Calls Try.prog 16 #[.pointer (some ⟨g, 0, none⟩), .agg #[.int .i64 (o : Int), .int .i64 (s : Int), .bool u]] w fun e w' => e = .returned (errV true 1) ∧ Became 73 g base cap A (layN (layN bs o m) (o + s - 8) m) w w' := by
  obtain ⟨w1, hw1⟩ : ∃ w1, w.alloc (.cells #[.int .i64 (o : Int), .int .i64 (s : Int), .bool u] 25) = w1 := ⟨_, rfl⟩
  have hb1 : Below w.heap.size w w1 := by rw [← hw1]; exact (Below.refl _ _).alloc (Nat.le_refl _) _
  have hn1 : w1.heap[w.heap.size]? = some (.cells #[.int .i64 (o : Int), .int .i64 (s : Int), .bool u] 25 (0, 0)) := by rw [← hw1]; exact heap_alloc_new w _
  have h1 := h.below hb1
  have HP := Lib.hid (tpack_any w1 (s : Int) u (by omega) m hm)
  have HC := Lib.hid (isplace_any w1 (o : Int) (by omega) true hc)
  have hm0 : ((m : Int) == 0) = false := by rw [beq_eq_false_iff_ne]; omega
  have hgl : ∀ k, foot g A k → k < w.heap.size := fun k hk => h.foot_lt hk
  have HA := Lib.hid (address_any h1 ((o : Int) + (s : Int) - 8))
  have e1 : adr base ((o : Int) + (s : Int) - 8) = base + (o + s - 8) := by rw [show (o : Int) + (s : Int) - 8 = ((o + s - 8 : Nat) : Int) by omega]; exact adr_pos base hb _ (by omega)
  obtain ⟨x1, hx1⟩ : ∃ x1 : Nat, base + (o + s - 8) = x1 := ⟨_, rfl⟩
  obtain ⟨x2, hx2⟩ : ∃ x2 : Nat, base + o = x2 := ⟨_, rfl⟩
  rw [e1, hx1] at HA
  have HS := Lib.hid (setword_ok h1 (by omega) x1 (o + s - 8) m (by omega) hm2 (by omega) (by omega) (by omega))
  have HW1 := Lib.hid hw1
  have HB1 := Lib.hid hb1
  have HN1 := Lib.hid hn1
  have HSW := Lib.hid (layN_swap bs o m (o + s - 8) m (by omega) (by omega))
  have HGL := Lib.hid hgl
  have HX2 := Lib.hid hx2
  have HBB := Lib.hid hb
  clear hm hw1 hb1 hn1 h0 hc h1 h e1 hgl hx1
  go_enter Try.func16, Try.ntmps16
  obtain ⟨⟨c0, c1, c2⟩, f0, f1, f2⟩ := blk_cells HN1.out
  go_wp2_with fail
  rw [HW1.out]
  go_wp2_with fail
  with_reducible refine HP.out.mono ?_
  rintro e w2 ⟨rfl, rfl⟩
  go_wp2_with fail
  with_reducible refine HC.out.mono ?_
  rintro e w2 ⟨rfl, rfl⟩
  go_wp2_with fail
  with_reducible refine HA.out.mono ?_
  rintro e w2 ⟨rfl, rfl⟩
  go_wp2_with fail
  with_reducible refine HS.out.mono ?_
  rintro e w2 ⟨rfl, A2, c2, a2, t2, k2⟩
  have hn2 := (t2.block _ (heap_lt HN1.out) (fun hf => absurd (HGL.out _ hf) (by omega))).trans HN1.out
  obtain ⟨⟨d0, d1, d2⟩, _⟩ := blk_cells hn2
  have HA2 := Lib.hid (address_any a2 (o : Int))
  rw [adr_pos base HBB.out o (by omega), HX2.out] at HA2
  have HS2 := Lib.hid (setword_ok a2 (by rw [lay_length _ _ _ (by rw [lowB_length]; omega)]; omega) x2 o m (by omega) hm2 (by omega) (by omega) (by rw [lay_length _ _ _ (by rw [lowB_length]; omega)]; omega))
  have HAR := Lib.hid a2
  have HT := Lib.hid t2
  have HK := Lib.hid k2
  clear a2 t2 k2 hn2
  go_wp2_with fail
  with_reducible refine HA2.out.mono ?_
  rintro e w3 ⟨rfl, rfl⟩
  go_wp2_with fail
  with_reducible refine HS2.out.mono ?_
  rintro e w3 ⟨rfl, hbe⟩
  have hbe2 := (Became.trans HAR.out HT.out HK.out hbe).after HB1.out
  have hbe3 : Became 73 g base cap A (layN (layN bs o m) (o + s - 8) m) w w3 := by rw [← HSW.out]; exact hbe2
  have HE := Lib.hid hbe3
  clear hbe hbe2 hbe3
  go_wp2
  go_ret
  exact ⟨rfl, HE.out⟩

end
theorem setC : SetC := by
  intro w g base cap c A bs o s u y h hb hl ho hs hy
  subst hy
  cases hz : isSz s with
  | false =>
    have e : setB bs o s u = none := by unfold setB; rw [if_neg (fun h => by rw [hz] at h; cases h.1)]
    rw [e]
    exact set_1 w g o s hs u _ rfl (by simp [packN, hz])
  | true =>
    have hss := (isSz_iff _).1 hz
    have hm0 : packN s u ≠ 0 := by
      simp only [packN, hz, if_true]
      omega
    have hm2 : packN s u < 18446744073709551616 := by have := packN_lt s u; omega
    cases hc : plc o with
    | false =>
      have e : setB bs o s u = none := by
        unfold setB
        rw [if_neg]
        rintro ⟨_, h2⟩
        have := (could_iff _ _ _).1 h2
        rw [(plc_iff o).2 (by omega)] at hc
        cases hc
      rw [e]
      exact set_2 w g o ho s hs u _ rfl hm0 hc
    | true =>
      have hp := (plc_iff o).1 hc
      by_cases hle : o + s ≤ bs.length
      · obtain ⟨p, rfl⟩ : ∃ p : Nat, o = (p : Int) := ⟨o.toNat, by omega⟩
        obtain ⟨q, rfl⟩ : ∃ q : Nat, s = (q : Int) := ⟨s.toNat, by omega⟩
        have e : setB bs (p : Int) (q : Int) u = some (layN (layN bs p (packN (q : Int) u)) (p + q - 8) (packN (q : Int) u)) := by
          unfold setB
          rw [if_pos ⟨hz, (could_iff _ _ _).2 (by omega)⟩, Int.toNat_natCast, show ((p : Int) + (q : Int) - 8).toNat = p + q - 8 by omega]
        rw [e]
        exact set_4 h hb hl p q u _ rfl hm2 hm0 hc (by omega) (by omega)
      · have e : setB bs o s u = none := by
          unfold setB
          rw [if_neg]
          rintro ⟨_, h2⟩
          have := (could_iff _ _ _).1 h2
          omega
        rw [e]
        exact set_3 h hb hl o ho s hs u _ rfl hm2 hm0 hc (by omega) (by omega)
end Go.Proofs.Ytodbakpjibcmiaa
