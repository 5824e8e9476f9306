/- Texts of mine, joined: Blk4, St7, Fork, Spec9, Lst1, Lst2, Lst3, Lst4. -/
import Derived.Test.YtdhlfhpgfdpjbaaM5

/- The contract of the program's Set: both tags of a block, all ways. -/
namespace Go.Proofs.Ytdhlfhpgfdpjbaa
open Go.RowKit

theorem layN_swap (bs : List UInt8) (o v e k : Nat) (h1 : o + 8 ≤ e) (h2 : e + 8 ≤ bs.length) : layN (layN bs e k) o v = layN (layN bs o v) e k := by
  have hv := lowB_length 8 v
  have hk := lowB_length 8 k
  unfold layN lay
  rw [hv, hk]
  refine List.ext_getElem? fun i => ?_
  simp only [List.getElem?_append, List.length_append, List.length_take, List.length_drop, List.getElem?_take, List.getElem?_drop, hv, hk]
  repeat' split
  all_goals first | rfl | omega | (congr 1; omega) | skip
theorem Became.trans {t : TypeId} {g base cap c' : Nat} {A A' : Option Addr} {b1 b2 : List UInt8} {w w1 w2 : World} (h : Ar w1 t g base cap A' c' b1) (ht : Tch (foot g A) w w1) (hA : A' = A ∨ ∀ a, A' = some a → w.heap.size ≤ a.block) (k : Became t g base cap A' b2 w1 w2) : Became t g base cap A b2 w w2 := by
  obtain ⟨A2, c2, k1, k2, k3⟩ := k
  refine ⟨A2, c2, k1, ht.trans k2 (fun i hi hf => ?_), ?_⟩
  · rcases hf with rfl | ⟨a, e, rfl⟩
    · exact .inl rfl
    · rcases hA with hA | hA
      · exact .inr ⟨a, hA ▸ e, rfl⟩
      · exact absurd (hA a e) (by omega)
  · rcases k3 with k3 | k3
    · rcases hA with hA | hA
      · exact .inl (k3.trans hA)
      · exact .inr fun a ha => hA a (k3 ▸ ha)
    · exact .inr fun a ha => Nat.le_trans ht.size (k3 a ha)

section
variable {w : World} {g base cap c : Nat} {A : Option Addr} {bs : List UInt8}
set_option maxHeartbeats 1000000 in
theorem set_1 (w : World) (g : Nat) (o s : Int) (hs : -9223372036854775808 ≤ s ∧ s ≤ 9223372036854775807) (u : Bool) (m : Nat) (hm : packN s u = m) (h0 : m = 0) :
    Calls Try.prog 7 #[.pointer (some ⟨g, 0, none⟩), .agg #[.int .i64 o, .int .i64 s, .bool u]] w fun e w' => e = .returned (errV false 1) ∧ Below w.heap.size w w' := by
  obtain ⟨w1, hw1⟩ : ∃ w1, w.alloc (.cells #[.int .i64 o, .int .i64 s, .bool u] 27) = w1 := ⟨_, rfl⟩
  have hb1 : Below w.heap.size w w1 := by rw [← hw1]; exact (Below.refl _ _).alloc (Nat.le_refl _) _
  have hn1 : w1.heap[w.heap.size]? = some (.cells #[.int .i64 o, .int .i64 s, .bool u] 27 (0, 0)) := by rw [← hw1]; exact heap_alloc_new w _
  have HP := Lib.hid (tpack_any w1 s u (by omega) m hm)
  have HW1 := Lib.hid hw1
  have HB1 := Lib.hid hb1
  have HN1 := Lib.hid hn1
  subst h0
  clear hm hw1 hb1 hn1
  go_enter Try.func7, Try.ntmps7
  obtain ⟨⟨c0, c1, c2⟩, f0, f1, f2⟩ := blk_cells HN1.out
  go_wp2_with fail
  rw [HW1.out]
  go_wp2_with fail
  with_reducible refine HP.out.mono ?_
  rintro e w2 ⟨rfl, rfl⟩
  go_wp2
  go_ret
  exact ⟨rfl, HB1.out⟩

set_option maxHeartbeats 1000000 in
theorem set_2 (w : World) (g : Nat) (o : Int) (ho : -9223372036854775808 ≤ o ∧ o ≤ 9223372036854775807) (s : Int) (hs : -9223372036854775808 ≤ s ∧ s ≤ 9223372036854775807) (u : Bool) (m : Nat) (hm : packN s u = m) (h0 : m ≠ 0) (hc : plc o = false) :
    Calls Try.prog 7 #[.pointer (some ⟨g, 0, none⟩), .agg #[.int .i64 o, .int .i64 s, .bool u]] w fun e w' => e = .returned (errV false 1) ∧ Below w.heap.size w w' := by
  obtain ⟨w1, hw1⟩ : ∃ w1, w.alloc (.cells #[.int .i64 o, .int .i64 s, .bool u] 27) = w1 := ⟨_, rfl⟩
  have hb1 : Below w.heap.size w w1 := by rw [← hw1]; exact (Below.refl _ _).alloc (Nat.le_refl _) _
  have hn1 : w1.heap[w.heap.size]? = some (.cells #[.int .i64 o, .int .i64 s, .bool u] 27 (0, 0)) := by rw [← hw1]; exact heap_alloc_new w _
  have HP := Lib.hid (tpack_any w1 s u (by omega) m hm)
  have HC := Lib.hid (isplace_any w1 o ho false hc)
  have hm0 : ((m : Int) == 0) = false := by rw [beq_eq_false_iff_ne]; omega
  have HW1 := Lib.hid hw1
  have HB1 := Lib.hid hb1
  have HN1 := Lib.hid hn1
  clear hm hw1 hb1 hn1 h0 hc
  go_enter Try.func7, Try.ntmps7
  obtain ⟨⟨c0, c1, c2⟩, f0, f1, f2⟩ := blk_cells HN1.out
  go_wp2_with fail
  rw [HW1.out]
  go_wp2_with fail
  with_reducible refine HP.out.mono ?_
  rintro e w2 ⟨rfl, rfl⟩
  go_wp2_with fail
  with_reducible refine HC.out.mono ?_
  rintro e w2 ⟨rfl, rfl⟩
  go_wp2
  go_ret
  exact ⟨rfl, HB1.out⟩

set_option maxHeartbeats 1000000 in
theorem set_3 (h : Ar w 60 g base cap A c bs) (hb : base ≤ 4611686018427387904) (hl : bs.length ≤ 16384) (o : Int) (ho : -9223372036854775808 ≤ o ∧ o ≤ 9223372036854775807) (s : Int) (hs : -9223372036854775808 ≤ s ∧ s ≤ 9223372036854775807) (u : Bool) (m : Nat) (hm : packN s u = m) (hm2 : m < 18446744073709551616) (h0 : m ≠ 0) (hc : plc o = true) (hss : 32 ≤ s ∧ s ≤ 16384) (hlt : (bs.length : Int) < o + s) :
    Calls Try.prog 7 #[.pointer (some ⟨g, 0, none⟩), .agg #[.int .i64 o, .int .i64 s, .bool u]] w fun e w' => e = .returned (errV false 1) ∧ Below w.heap.size w w' := by
  obtain ⟨w1, hw1⟩ : ∃ w1, w.alloc (.cells #[.int .i64 o, .int .i64 s, .bool u] 27) = w1 := ⟨_, rfl⟩
  have hb1 : Below w.heap.size w w1 := by rw [← hw1]; exact (Below.refl _ _).alloc (Nat.le_refl _) _
  have hn1 : w1.heap[w.heap.size]? = some (.cells #[.int .i64 o, .int .i64 s, .bool u] 27 (0, 0)) := by rw [← hw1]; exact heap_alloc_new w _
  have h1 := h.below hb1
  have HP := Lib.hid (tpack_any w1 s u (by omega) m hm)
  have HC := Lib.hid (isplace_any w1 o ho true hc)
  have hm0 : ((m : Int) == 0) = false := by rw [beq_eq_false_iff_ne]; omega
  have hpl := (plc_iff o).1 hc
  obtain ⟨z, hz⟩ : ∃ z, wrap64 (wrap64 (o + s) - 8) = z := ⟨_, rfl⟩
  have hzb : -9223372036854775808 ≤ z ∧ z ≤ 9223372036854775807 ∧ (z < 0 ∨ (bs.length : Int) < z + 8) := by rw [← hz]; unfold wrap64; omega
  have HZ := Lib.hid hz
  have HA := Lib.hid (address_any h1 z)
  have HS := Lib.hid (setword_no h1 (by omega) (adr base z) m (adr_lt _ _) hm2 (adr_neg base hb z (by omega) bs.length 8 (by omega) (by omega) hzb.2.2))
  have HW1 := Lib.hid hw1
  have HB1 := Lib.hid hb1
  have HN1 := Lib.hid hn1
  clear hm hw1 hb1 hn1 h0 hc h1 h hz hpl
  go_enter Try.func7, Try.ntmps7
  obtain ⟨⟨c0, c1, c2⟩, f0, f1, f2⟩ := blk_cells HN1.out
  go_wp2_with fail
  rw [HW1.out]
  go_wp2_with fail
  with_reducible refine HP.out.mono ?_
  rintro e w2 ⟨rfl, rfl⟩
  go_wp2_with fail
  with_reducible refine HC.out.mono ?_
  rintro e w2 ⟨rfl, rfl⟩
  go_wp2_with fail
  rw [HZ.out]
  with_reducible refine HA.out.mono ?_
  rintro e w2 ⟨rfl, rfl⟩
  go_wp2_with fail
  with_reducible refine HS.out.mono ?_
  rintro e w2 ⟨rfl, hb2⟩
  have HB2 := Lib.hid (HB1.out.trans (hb2.mono HB1.out.size))
  clear hb2
  go_wp2
  go_ret
  exact ⟨rfl, HB2.out⟩

set_option maxHeartbeats 1000000 in
theorem set_4 (h : Ar w 60 g base cap A c bs) (hb : base ≤ 4611686018427387904) (hl : bs.length ≤ 16384) (o s : Nat) (u : Bool) (m : Nat) (hm : packN (s : Int) u = m) (hm2 : m < 18446744073709551616) (h0 : m ≠ 0) (hc : plc (o : Int) = true) (hss : 32 ≤ s ∧ s ≤ 16384) (hle : o + s ≤ bs.length) :
    Calls Try.prog 7 #[.pointer (some ⟨g, 0, none⟩), .agg #[.int .i64 (o : Int), .int .i64 (s : Int), .bool u]] w fun e w' => e = .returned (errV true 1) ∧ Became 60 g base cap A (layN (layN bs o m) (o + s - 8) m) w w' := by
  obtain ⟨w1, hw1⟩ : ∃ w1, w.alloc (.cells #[.int .i64 (o : Int), .int .i64 (s : Int), .bool u] 27) = w1 := ⟨_, rfl⟩
  have hb1 : Below w.heap.size w w1 := by rw [← hw1]; exact (Below.refl _ _).alloc (Nat.le_refl _) _
  have hn1 : w1.heap[w.heap.size]? = some (.cells #[.int .i64 (o : Int), .int .i64 (s : Int), .bool u] 27 (0, 0)) := by rw [← hw1]; exact heap_alloc_new w _
  have h1 := h.below hb1
  have HP := Lib.hid (tpack_any w1 (s : Int) u (by omega) m hm)
  have HC := Lib.hid (isplace_any w1 (o : Int) (by omega) true hc)
  have hm0 : ((m : Int) == 0) = false := by rw [beq_eq_false_iff_ne]; omega
  have hgl : ∀ k, foot g A k → k < w.heap.size := fun k hk => h.foot_lt hk
  have HA := Lib.hid (address_any h1 ((o : Int) + (s : Int) - 8))
  have e1 : adr base ((o : Int) + (s : Int) - 8) = base + (o + s - 8) := by rw [show (o : Int) + (s : Int) - 8 = ((o + s - 8 : Nat) : Int) by omega]; exact adr_pos base hb _ (by omega)
  obtain ⟨x1, hx1⟩ : ∃ x1 : Nat, base + (o + s - 8) = x1 := ⟨_, rfl⟩
  obtain ⟨x2, hx2⟩ : ∃ x2 : Nat, base + o = x2 := ⟨_, rfl⟩
  rw [e1, hx1] at HA
  have HS := Lib.hid (setword_ok h1 (by omega) x1 (o + s - 8) m (by omega) hm2 (by omega) (by omega) (by omega))
  have HW1 := Lib.hid hw1
  have HB1 := Lib.hid hb1
  have HN1 := Lib.hid hn1
  have HSW := Lib.hid (layN_swap bs o m (o + s - 8) m (by omega) (by omega))
  have HGL := Lib.hid hgl
  have HX2 := Lib.hid hx2
  have HBB := Lib.hid hb
  clear hm hw1 hb1 hn1 h0 hc h1 h e1 hgl hx1
  go_enter Try.func7, Try.ntmps7
  obtain ⟨⟨c0, c1, c2⟩, f0, f1, f2⟩ := blk_cells HN1.out
  go_wp2_with fail
  rw [HW1.out]
  go_wp2_with fail
  with_reducible refine HP.out.mono ?_
  rintro e w2 ⟨rfl, rfl⟩
  go_wp2_with fail
  with_reducible refine HC.out.mono ?_
  rintro e w2 ⟨rfl, rfl⟩
  go_wp2_with fail
  with_reducible refine HA.out.mono ?_
  rintro e w2 ⟨rfl, rfl⟩
  go_wp2_with fail
  with_reducible refine HS.out.mono ?_
  rintro e w2 ⟨rfl, A2, c2, a2, t2, k2⟩
  have hn2 := (t2.block _ (heap_lt HN1.out) (fun hf => absurd (HGL.out _ hf) (by omega))).trans HN1.out
  obtain ⟨⟨d0, d1, d2⟩, _⟩ := blk_cells hn2
  have HA2 := Lib.hid (address_any a2 (o : Int))
  rw [adr_pos base HBB.out o (by omega), HX2.out] at HA2
  have HS2 := Lib.hid (setword_ok a2 (by rw [lay_length _ _ _ (by rw [lowB_length]; omega)]; omega) x2 o m (by omega) hm2 (by omega) (by omega) (by rw [lay_length _ _ _ (by rw [lowB_length]; omega)]; omega))
  have HAR := Lib.hid a2
  have HT := Lib.hid t2
  have HK := Lib.hid k2
  clear a2 t2 k2 hn2
  go_wp2_with fail
  with_reducible refine HA2.out.mono ?_
  rintro e w3 ⟨rfl, rfl⟩
  go_wp2_with fail
  with_reducible refine HS2.out.mono ?_
  rintro e w3 ⟨rfl, hbe⟩
  have hbe2 := (Became.trans HAR.out HT.out HK.out hbe).after HB1.out
  have hbe3 : Became 60 g base cap A (layN (layN bs o m) (o + s - 8) m) w w3 := by rw [← HSW.out]; exact hbe2
  have HE := Lib.hid hbe3
  clear hbe hbe2 hbe3
  go_wp2
  go_ret
  exact ⟨rfl, HE.out⟩

end
theorem setC : SetC := by
  intro w g base cap c A bs o s u y h hb hl ho hs hy
  subst hy
  cases hz : isSz s with
  | false =>
    have e : setB bs o s u = none := by unfold setB; rw [if_neg (fun h => by rw [hz] at h; cases h.1)]
    rw [e]
    exact set_1 w g o s hs u _ rfl (by simp [packN, hz])
  | true =>
    have hss := (isSz_iff _).1 hz
    have hm0 : packN s u ≠ 0 := by
      simp only [packN, hz, if_true]
      omega
    have hm2 : packN s u < 18446744073709551616 := by have := packN_lt s u; omega
    cases hc : plc o with
    | false =>
      have e : setB bs o s u = none := by
        unfold setB
        rw [if_neg]
        rintro ⟨_, h2⟩
        have := (could_iff _ _ _).1 h2
        rw [(plc_iff o).2 (by omega)] at hc
        cases hc
      rw [e]
      exact set_2 w g o ho s hs u _ rfl hm0 hc
    | true =>
      have hp := (plc_iff o).1 hc
      by_cases hle : o + s ≤ bs.length
      · obtain ⟨p, rfl⟩ : ∃ p : Nat, o = (p : Int) := ⟨o.toNat, by omega⟩
        obtain ⟨q, rfl⟩ : ∃ q : Nat, s = (q : Int) := ⟨s.toNat, by omega⟩
        have e : setB bs (p : Int) (q : Int) u = some (layN (layN bs p (packN (q : Int) u)) (p + q - 8) (packN (q : Int) u)) := by
          unfold setB
          rw [if_pos ⟨hz, (could_iff _ _ _).2 (by omega)⟩, Int.toNat_natCast, show ((p : Int) + (q : Int) - 8).toNat = p + q - 8 by omega]
        rw [e]
        exact set_4 h hb hl p q u _ rfl hm2 hm0 hc (by omega) (by omega)
      · have e : setB bs o s u = none := by
          unfold setB
          rw [if_neg]
          rintro ⟨_, h2⟩
          have := (could_iff _ _ _).1 h2
          omega
        rw [e]
        exact set_3 h hb hl o ho s hs u _ rfl hm2 hm0 hc (by omega) (by omega)
end Go.Proofs.Ytdhlfhpgfdpjbaa

/- How a world stands in the walks of the laws of layers 7 to 11: an arena of the law's own, blocks behind a bound, what was there below it. -/
namespace Go.Proofs.Ytdhlfhpgfdpjbaa
open Go.RowKit

/-- Since wB nothing below has changed; an arena lies above; these objects, too. -/
structure St (wB W : World) (g base cap : Nat) (A : Option Addr) (c : Nat) (bs : List UInt8) (L : List (Nat × Obj)) : Prop where
  bel : Below wB.heap.size wB W
  ar : Ar W 60 g base cap A c bs
  gB : wB.heap.size ≤ g
  aB : ∀ a, A = some a → wB.heap.size ≤ a.block
  has : ∀ p ∈ L, W.heap[p.1]? = some p.2

section
variable {wB W W' : World} {g base cap c : Nat} {A : Option Addr} {bs : List UInt8} {L : List (Nat × Obj)}
theorem St.size (h : St wB W g base cap A c bs L) : wB.heap.size ≤ W.heap.size := h.bel.size
theorem St.below (h : St wB W g base cap A c bs L) (hb : Below W.heap.size W W') : St wB W' g base cap A c bs L :=
  ⟨h.bel.trans (hb.mono h.size), h.ar.below hb, h.gB, h.aB, fun p hp => (hb.block p.1 (heap_lt (h.has p hp))).trans (h.has p hp)⟩
theorem St.alloc (h : St wB W g base cap A c bs L) (o : Obj) : St wB (W.alloc o) g base cap A c bs ((W.heap.size, o) :: L) := by
  have hb : Below W.heap.size W (W.alloc o) := (Below.refl _ _).alloc (Nat.le_refl _) o
  have h' := h.below hb
  refine ⟨h'.bel, h'.ar, h'.gB, h'.aB, fun p hp => ?_⟩
  rcases List.mem_cons.1 hp with rfl | hp
  · exact heap_alloc_new W o
  · exact h'.has p hp
theorem St.drewN (h : St wB W g base cap A c bs L) (k : Nat) : St wB (W.drewN k) g base cap A c bs L :=
  ⟨⟨h.bel.os, h.bel.tape, h.bel.output, h.bel.size, h.bel.block⟩, h.ar.drewN k, h.gB, h.aB, h.has⟩
theorem St.became {out : List UInt8} (h : St wB W g base cap A c bs L) (hb : Became 60 g base cap A out W W') : ∃ A' c', St wB W' g base cap A' c' out [] := by
  obtain ⟨A', c', har, hbl, hA⟩ := hb.below (B := wB.heap.size) h.gB h.aB h.size
  exact ⟨A', c', h.bel.trans hbl, har, h.gB, hA, fun p hp => by cases hp⟩
theorem St.made {w : World} {e : Ending} {w' : World} (h : MadeAr base cap bs w e w') : ∃ g A c, e = .returned (.pointer (some ⟨g, 0, none⟩)) ∧ St w w' g base cap A c bs [] := by
  obtain ⟨g, A, c, he, har, hb, hg, hA⟩ := h
  exact ⟨g, A, c, he, hb, har, hg, hA, fun p hp => by cases hp⟩
theorem St.rd (h : St wB W g base cap A c bs L) {n : Nat} {A' : Option Addr} {cs : List UInt8} (r : Rd wB wB.heap.size A' n cs) : Rd W W.heap.size A' n cs := (r.below h.bel).more h.size
theorem St.obj (h : St wB W g base cap A c bs L) {p : Nat} {o : Obj} (hp : (p, o) ∈ L) : W.heap[p]? = some o := h.has (p, o) hp
end
/-- A block's value, whatever it is. -/
theorem bkV_is (x : Option Bk) : ∃ (a b : Int) (u : Bool), bkV x = .agg #[.int .i64 a, .int .i64 b, .bool u] := by
  cases x with
  | none => exact ⟨0, 0, false, rfl⟩
  | some x => exact ⟨_, _, _, rfl⟩
theorem up7_ {w : World} {a b : Int} {u : Bool} {t : TypeId} {g : Nat} (h : w.heap[g]? = some (.cells #[.int .i64 a, .int .i64 b, .bool u] t (0, 0))) : w.cell? ⟨g, 0, none⟩ = some (.int .i64 a) ∧ w.cell? ⟨g, 1, none⟩ = some (.int .i64 b) ∧ w.cell? ⟨g, 2, none⟩ = some (.bool u) := (blk_cells h).1

end Go.Proofs.Ytdhlfhpgfdpjbaa

/- A region that draws its order, with one place at which two operations that are no readers may come up, one ahead of the other; a struct of a block made and filled in a region. -/
namespace Go.Proofs.Ytdhlfhpgfdpjbaa
open Go.RowKit

section
variable {P : Program} {ops : Array Oper} {Q : Exit → Act → World → Prop}
/-- The region: readers first, then either of two, each with an order of its own for what is left. -/
theorem wp_region_fork {id : Nat} {a : Act} {w : World} (B : Nat) (rs : List Nat) (i1 i2 : Nat) (p1 p2 : List (List Nat × Nat)) (last1 last2 T : List Nat) (hm : P.follows .mixedOrders = true) (hsel : Region.noSelect ops = true)
    (hc : (segT ops T (Array.replicate ops.size false) rs && (Region.ready .any ops (mark (Array.replicate ops.size false) rs) == [i1, i2] && (!mv ops i1 && (!mv ops i2 && (planT ops last1 T ((mark (Array.replicate ops.size false) rs).setIfInBounds i1 true) p1 && (planT ops last2 T ((mark (Array.replicate ops.size false) rs).setIfInBounds i2 true) p2 && (1 + planTLen last1 T p1 + rs.length == ops.size && 1 + planTLen last2 T p2 + rs.length == ops.size))))))) = true)
    (hQ : ∀ c a t v w, Q (.panic c) (Act.put a (some t) v) w → Q (.panic c) a w)
    (h : wpQuiet P ops (AfterB B w.drew) (fun a' => wpOp P ops Q i1 (fun a'' w'' => Below B w.drew w'' ∧ ∃ B', B ≤ B' ∧ wpT P ops Q last1 T p1 B' a'' w'') a' w.drew ∧ wpOp P ops Q i2 (fun a'' w'' => Below B w.drew w'' ∧ ∃ B', B ≤ B' ∧ wpT P ops Q last2 T p2 B' a'' w'') a' w.drew) (pick ops rs) a) :
    (Code.region id ops true).wp P Q a w := by
  simp only [Bool.and_eq_true, beq_iff_eq] at hc
  obtain ⟨h1, h2, m1, m2, k1, k2, n1, n2⟩ := hc
  have hs := segT_any (T := T) hsel hQ B w.drew _ (1 + planTLen last1 T p1) rs _ a h1 h (fun a' ha => by
    rw [Nat.add_comm]
    refine ⟨fun h0 => (by rw [h2] at h0; cases h0), fun j hj => ?_⟩
    rw [h2] at hj
    rcases List.mem_cons.1 hj with rfl | hj
    · refine wpOp_mono (fun a'' w'' hh => ⟨fun _ _ => hh.1, fun hm => by simp [hm] at m1, ?_⟩) ha.1
      obtain ⟨hb, B', hB, hm⟩ := hh
      exact wpAnyT_less (fun w3 h4 => hb.trans (h4.mono hB)) _ _ _ _ (planT_any hsel hQ last1 p1 _ B' a'' w'' k1 hm)
    · obtain rfl : j = i2 := by simpa using hj
      have e : planTLen last1 T p1 = planTLen last2 T p2 := by omega
      rw [e]
      refine wpOp_mono (fun a'' w'' hh => ⟨fun _ _ => hh.1, fun hm => by simp [hm] at m2, ?_⟩) ha.2
      obtain ⟨hb, B', hB, hm⟩ := hh
      exact wpAnyT_less (fun w3 h4 => hb.trans (h4.mono hB)) _ _ _ _ (planT_any hsel hQ last2 p2 _ B' a'' w'' k2 hm))
  rw [n1] at hs
  exact wp_region_any hm (wpAnyT_any _ _ _ _ hs)

/-- An operation that yields nothing and writes above the bound. -/
theorem tail_skip {i B : Nat} {o : Oper} {a : Act} {w w1 : World} {K : Act → World → Prop} (ho : ops[i]? = some o) (hd : o.dst = none) (hw : Region.wanted o (yielded ops a.tmps) = true)
    (hr : (execOp a.eval o).run P w = .ok .skip w1) (hb : Below B w w1) (hk : K a w1) : wpOp P ops Q i (fun a'' w'' => Below B w w'' ∧ K a'' w'') a w := by
  unfold wpOp
  simp only [ho]
  rw [if_pos hw]
  refine .inl ?_
  unfold Oper.wp
  rw [hr]
  refine ⟨hb, ?_⟩
  rw [hd]
  exact hk
end

/-- A new block's struct. -/
theorem alloc_blk (ρ : Operand → Value) (o : Oper) (ho : o.op = .alloc 27) (w : World) :
    (execOp ρ o).run Try.prog w = .ok (.value (.pointer (some ⟨w.heap.size, 0, none⟩))) (w.alloc (.cells #[.int .i64 0, .int .i64 0, .bool false] 27)) := by
  unfold execOp
  simp only [ho]
  simp [go_sem]

theorem store_blk (ρ : Operand → Value) (o : Oper) (x y : Operand) (ho : o.op = .store 27 x y) (w : World) (gx : Nat) (p q : Int) (r : Bool) (v0 v1 v2 : Value) (hx : ρ x = .pointer (some ⟨gx, 0, none⟩)) (hy : ρ y = .agg #[.int .i64 p, .int .i64 q, .bool r]) (h : w.heap[gx]? = some (.cells #[v0, v1, v2] 27 (0, 0))) :
    (execOp ρ o).run Try.prog w = .ok .skip (((w.setCell ⟨gx, 0, none⟩ (.int .i64 p)).setCell ⟨gx, 1, none⟩ (.int .i64 q)).setCell ⟨gx, 2, none⟩ (.bool r)) := by
  obtain ⟨⟨e0, e1, e2⟩, f0, f1, f2⟩ := blk_cells h
  unfold execOp
  simp only [ho, hx, hy]
  simp [go_sem, e0, e1, e2, f0, f1, f2]

section
variable {wB W : World} {g base cap c : Nat} {A : Option Addr} {bs : List UInt8} {L : List (Nat × Obj)}
/-- A struct above the bound, and no part of the arena, is filled; one other object is kept. -/
theorem St.put3 (h : St wB W g base cap A c bs L) {gx g9 : Nat} {t : TypeId} {a b d : Value} {o9 : Obj} (hx : W.heap[gx]? = some (.cells #[a, b, d] t (0, 0))) (hn : ¬ foot g A gx) (hB : wB.heap.size ≤ gx) (h9 : W.heap[g9]? = some o9) (hne : g9 ≠ gx) (x y z : Value) :
    St wB (((W.setCell ⟨gx, 0, none⟩ x).setCell ⟨gx, 1, none⟩ y).setCell ⟨gx, 2, none⟩ z) g base cap A c bs [(gx, .cells #[x, y, z] t), (g9, o9)] := by
  have keep : ∀ k, k ≠ gx → (((W.setCell ⟨gx, 0, none⟩ x).setCell ⟨gx, 1, none⟩ y).setCell ⟨gx, 2, none⟩ z).heap[k]? = W.heap[k]? := fun k hk =>
    (Below.heap_setCell _ ⟨gx, 2, none⟩ z k hk).trans ((Below.heap_setCell _ ⟨gx, 1, none⟩ y k hk).trans (Below.heap_setCell _ ⟨gx, 0, none⟩ x k hk))
  refine ⟨((h.bel.setCell (p := ⟨gx, 0, none⟩) hB x).setCell (p := ⟨gx, 1, none⟩) hB y).setCell (p := ⟨gx, 2, none⟩) hB z, h.ar.keep fun k hk => keep k (fun e => hn (e ▸ hk)), h.gB, h.aB, fun p hp => ?_⟩
  rcases List.mem_cons.1 hp with rfl | hp
  · exact blk_set hx x y z
  · obtain rfl : p = (g9, o9) := by simpa using hp
    exact (keep g9 hne).trans h9
theorem St.nofoot (h : St wB W g base cap A c bs L) {k : Nat} (hk : W.heap.size ≤ k) : ¬ foot g A k := fun hf => by have := h.ar.foot_lt hf; omega
end
end Go.Proofs.Ytdhlfhpgfdpjbaa

/- What the program's lists (layer 9) are to tell: the words in which the laws ask for it. -/
namespace Go.Proofs.Ytdhlfhpgfdpjbaa
open Go.RowKit

/-- Numbers, or an error. -/
def NumsTold (x : Option (List Nat)) (k : Int) (w : World) (e : Ending) (w' : World) : Prop :=
  ∃ A' c', e = .returned (.tuple #[.slice A' (x.getD []).length c', errV x.isSome k]) ∧ w'.ownsRow w.heap.size 3 1 (.slice A' (x.getD []).length c') (x.getD []).length ((x.getD []).map iV) ∧ Below w.heap.size w w'

def PutC : Prop := ∀ (w : World) (g base cap c : Nat) (A : Option Addr) (bs : List UInt8) (o : Int) (y : Option (List UInt8)), Ar w 60 g base cap A c bs → base ≤ 4611686018427387904 → bs.length ≤ 16384 → (-9223372036854775808 ≤ o ∧ o ≤ 9223372036854775807) → putB bs o = y →
  Calls Try.prog 9 #[.pointer (some ⟨g, 0, none⟩), .int .i64 o] w fun e w' => Done 3 60 g base cap A y w e w'
def TakeC : Prop := ∀ (w : World) (g base cap c : Nat) (A : Option Addr) (bs : List UInt8) (o : Int) (y : Option (List UInt8)), Ar w 60 g base cap A c bs → base ≤ 4611686018427387904 → bs.length ≤ 16384 → (-9223372036854775808 ≤ o ∧ o ≤ 9223372036854775807) → takeB bs o = y →
  Calls Try.prog 10 #[.pointer (some ⟨g, 0, none⟩), .int .i64 o] w fun e w' => Done 3 60 g base cap A y w e w'
def AllC : Prop := ∀ (w : World) (g base cap c : Nat) (A : Option Addr) (bs : List UInt8) (k : Nat) (x : Option (List Nat)), Ar w 60 g base cap A c bs → base ≤ 4611686018427387904 → bs.length ≤ 16384 → k < 22 → allB bs k = x →
  Calls Try.prog 11 #[.pointer (some ⟨g, 0, none⟩), .int .i64 (k : Int)] w fun e w' => NumsTold x 3 w e w'
end Go.Proofs.Ytdhlfhpgfdpjbaa

/- The program's lists (layer 9): a number at an offset, told and laid; a class's place and bit. -/
namespace Go.Proofs.Ytdhlfhpgfdpjbaa
open Go.RowKit

theorem ru64_eq {a b : Int} (h : a = b) : Ending.returned (.int .u64 a) = .returned (.int .u64 b) := by rw [h]
/-- A call that lays bytes, behind others that did. -/
theorem step_became {t : TypeId} {g base cap : Nat} {A : Option Addr} {b1 b2 : List UInt8} {w w1 : World} {F : Nat} {args : Array Value} {r : Ending} (h : Became t g base cap A b1 w w1)
    (hc : ∀ A' c', Ar w1 t g base cap A' c' b1 → Calls Try.prog F args w1 fun e w2 => e = r ∧ Became t g base cap A' b2 w1 w2) : Calls Try.prog F args w1 fun e w2 => e = r ∧ Became t g base cap A b2 w w2 := by
  obtain ⟨A', c', a, tc, k⟩ := h
  refine (hc A' c' a).mono ?_
  rintro e w2 ⟨h1, h2⟩
  exact ⟨h1, Became.trans a tc k h2⟩

section
variable {w : World} {g base cap c : Nat} {A : Option Addr} {bs : List UInt8}
set_option maxHeartbeats 400000 in
theorem lnumber_any (h : Ar w 60 g base cap A c bs) (hb : base ≤ 4611686018427387904) (hl : bs.length ≤ 16384) (o : Int) (p : Nat) (hp : o = (p : Int)) (ho : p + 8 ≤ bs.length) (v : Nat) (hv : wordN bs p = v) :
    Calls Try.prog 23 #[.pointer (some ⟨g, 0, none⟩), .int .i64 o] w fun e w' => e = .returned (.int .u64 (v : Int)) ∧ w = w' := by
  subst hp
  have HA := Lib.hid (base_any h)
  have hwd := word_at h hb hl (p : Int) (by omega) (some v) (by unfold word?; rw [if_pos (by omega), Int.toNat_natCast, hv])
  dsimp only [wdV] at hwd
  rw [adr_pos base hb p (by omega), show ((base + p : Nat) : Int) = (base : Int) + (p : Int) by omega] at hwd
  have HW := Lib.hid hwd
  have hp2 : p ≤ 16384 := by omega
  clear hwd h hv ho hl
  go_enter Try.func23, Try.ntmps23
  go_wp2_with fail
  with_reducible refine HA.out.mono ?_
  rintro e w1 ⟨rfl, rfl⟩
  go_wp2_with fail
  refine HW.out.mono ?_
  rintro e w1 ⟨rfl, rfl⟩
  go_wp2
  go_ret
  exact ⟨rfl, rfl⟩

set_option maxHeartbeats 400000 in
theorem lset_any (h : Ar w 60 g base cap A c bs) (hb : base ≤ 4611686018427387904) (hl : bs.length ≤ 16384) (o : Int) (p : Nat) (hp : o = (p : Int)) (ho : p + 8 ≤ bs.length) (v : Nat) (hv : v < 18446744073709551616) :
    Calls Try.prog 26 #[.pointer (some ⟨g, 0, none⟩), .int .i64 o, .int .u64 (v : Int)] w fun e w' => e = .returned (.tuple #[]) ∧ Became 60 g base cap A (lyN bs p v) w w' := by
  subst hp
  have HA := Lib.hid (base_any h)
  have hwd := setword_ok h (by omega) (base + p) p v (by omega) hv (by omega) (by omega) ho
  rw [show lay bs p (lowB 8 v) = lyN bs p v from layN_eq bs p v, show ((base + p : Nat) : Int) = (base : Int) + (p : Int) by omega] at hwd
  have HW := Lib.hid hwd
  have hp2 : p ≤ 16384 := by omega
  clear hwd h ho hl
  go_enter Try.func26, Try.ntmps26
  go_wp2_with fail
  with_reducible refine HA.out.mono ?_
  rintro e w1 ⟨rfl, rfl⟩
  go_wp2_with fail
  refine HW.out.mono ?_
  rintro e w1 ⟨rfl, hbe⟩
  have HB := Lib.hid hbe
  clear hbe
  go_wp2
  go_end0
  exact ⟨rfl, HB.out⟩

set_option maxHeartbeats 400000 in
theorem lfirst_any (w : World) (k : Nat) (hk : k < 22) :
    Calls Try.prog 24 #[.int .i64 (k : Int)] w fun e w' => e = .returned (.int .i64 (8 + 8 * (k : Int))) ∧ w = w' := by
  go_enter Try.func24, Try.ntmps24
  go_wp2
  go_ret
  exact ⟨rfl, rfl⟩

set_option maxHeartbeats 400000 in
theorem lbit_any (w : World) (k : Nat) (hk : k < 22) :
    Calls Try.prog 38 #[.int .i64 (k : Int)] w fun e w' => e = .returned (.int .u64 ((2 ^ k : Nat) : Int)) ∧ w = w' := by
  have HP := Lib.hid (pow22 k hk)
  go_enter Try.func38, Try.ntmps38
  go_wp2
  go_ret
  refine ⟨ru64_eq ?_, rfl⟩
  have hq := HP.out
  have e : (2 : Int) ^ k = ((2 ^ k : Nat) : Int) := by rw [Int.natCast_pow]; rfl
  rw [IntKind.wrap_u64, e]
  clear e HP
  generalize 2 ^ k = q at hq
  omega
end
end Go.Proofs.Ytdhlfhpgfdpjbaa

/- The program's lists (layer 9): the class of a free block, members, a class's bit. -/
namespace Go.Proofs.Ytdhlfhpgfdpjbaa
open Go.RowKit

section
variable {w : World} {g base cap c : Nat} {A : Option Addr} {bs : List UInt8}
set_option maxHeartbeats 1000000 in
theorem lfree_no (h : Ar w 60 g base cap A c bs) (hb : base ≤ 4611686018427387904) (hl : bs.length ≤ 16384) (o : Int) (ho : -9223372036854775808 ≤ o ∧ o ≤ 9223372036854775807) (hk : freeI bs o < 0) :
    Calls Try.prog 22 #[.pointer (some ⟨g, 0, none⟩), .int .i64 o] w fun e w' => e = .returned (.tuple #[.int .i64 0, .bool false]) ∧ Below w.heap.size w w' := by
  cases hg : getB bs o with
  | none =>
    have hG := getC w g base cap c A bs o _ h hb hl ho hg
    dsimp only [BlkTold, bkV, Option.isSome, errV] at hG
    have HG := Lib.hid hG
    clear hG h hk hg
    go_enter Try.func22, Try.ntmps22
    go_wp2_with fail
    with_reducible refine HG.out.mono ?_
    rintro e w1 ⟨rfl, hb⟩
    go_wp2
    go_ret2
    exact ⟨rfl, hb.alloc hb.size _⟩
  | some x =>
    obtain ⟨xo, xs, xu⟩ := x
    have hG := getC w g base cap c A bs o _ h hb hl ho hg
    dsimp only [BlkTold, bkV, Bk.val, Option.isSome, errV] at hG
    have q3 := (getB_some hg).2.2.2.2.1
    dsimp only at q3
    have q := (isSz_iff _).1 q3
    cases xu with
    | true =>
      have HG := Lib.hid hG
      clear hG h hk hg q3
      go_enter Try.func22, Try.ntmps22
      go_wp2_with fail
      with_reducible refine HG.out.mono ?_
      rintro e w1 ⟨rfl, hb⟩
      go_wp2
      go_ret2
      exact ⟨rfl, hb.alloc hb.size _⟩
    | false =>
      obtain ⟨d, hd, _⟩ := class_nat (x := ⟨xo, xs, false⟩) q3
      dsimp only at hd
      unfold freeI at hk
      rw [hg] at hk
      dsimp only at hk
      rw [hd] at hk
      simp at hk
      omega

set_option maxRecDepth 100000 in
set_option maxHeartbeats 1000000 in
theorem lfree_yes (h : Ar w 60 g base cap A c bs) (hb : base ≤ 4611686018427387904) (hl : bs.length ≤ 16384) (o : Int) (ho : -9223372036854775808 ≤ o ∧ o ≤ 9223372036854775807) (k : Nat) (hk : freeI bs o = (k : Int)) :
    Calls Try.prog 22 #[.pointer (some ⟨g, 0, none⟩), .int .i64 o] w fun e w' => e = .returned (.tuple #[.int .i64 (k : Int), .bool true]) ∧ Below w.heap.size w w' := by
  cases hg : getB bs o with
  | none => unfold freeI at hk; rw [hg] at hk; dsimp only at hk; omega
  | some x =>
    obtain ⟨xo, xs, xu⟩ := x
    have hG := getC w g base cap c A bs o _ h hb hl ho hg
    dsimp only [BlkTold, bkV, Bk.val, Option.isSome, errV] at hG
    have q := (isSz_iff _).1 (getB_some hg).2.2.2.2.1
    dsimp only at q
    cases xu with
    | true => unfold freeI at hk; rw [hg] at hk; simp at hk
    | false =>
      have hk' : classI (xs : Int) = (k : Int) := by rw [← hk]; unfold freeI; rw [hg]; rfl
      have HC := Lib.hid (fun w => classC w (xs : Int) (by omega))
      rw [hk'] at HC
      have HG := Lib.hid hG
      clear hG h hk hg hk'
      go_enter Try.func22, Try.ntmps22
      go_wp2_with fail
      with_reducible refine HG.out.mono ?_
      rintro e w1 ⟨rfl, hb⟩
      go_wp2_with fail
      with_reducible refine (HC.out _).mono ?_
      rintro e w2 ⟨rfl, hb2⟩
      have hb3 := hb.alloc hb.size (.cells #[.int .i64 (xo : Int), .int .i64 (xs : Int), .bool false] 27)
      have HB := Lib.hid (hb3.trans (hb2.mono hb3.size))
      clear hb hb2 hb3
      go_wp2
      go_ret2
      exact ⟨rfl, HB.out⟩

set_option maxHeartbeats 1000000 in
theorem lmember_any (h : Ar w 60 g base cap A c bs) (hb : base ≤ 4611686018427387904) (hl : bs.length ≤ 16384) (k p : Nat) (hk : k < 22) (hp : p < 18446744073709551616) (b : Bool) (hm : memberB bs p (k : Int) = b) :
    Calls Try.prog 25 #[.pointer (some ⟨g, 0, none⟩), .int .i64 (k : Int), .int .u64 (p : Int)] w fun e w' => e = .returned (.bool b) ∧ Below w.heap.size w w' := by
  have HL := Lib.hid (len_any h)
  by_cases h0 : bs.length ≤ p
  · obtain rfl : false = b := by
      rw [← hm]
      cases hq : memberB bs p (k : Int) with
      | true => have := memberB_in hq; omega
      | false => rfl
    clear hm h
    go_enter Try.func25, Try.ntmps25
    go_wp2_with fail
    with_reducible refine HL.out.mono ?_
    rintro e w1 ⟨rfl, rfl⟩
    go_wp2
    go_ret
    exact ⟨rfl, Below.refl _ _⟩
  · have h1 : p < bs.length := by omega
    rw [memberB_free, decide_eq_true (by omega), Bool.true_and] at hm
    rcases freeI_cases bs (p : Int) with hf | ⟨j, hf⟩
    · obtain rfl : false = b := by rw [← hm]; exact (beq_eq_false_iff_ne.2 (by omega)).symm
      have HF := Lib.hid (lfree_no h hb hl (p : Int) (by omega) hf)
      clear hm h hf
      go_enter Try.func25, Try.ntmps25
      go_wp2_with fail
      with_reducible refine HL.out.mono ?_
      rintro e w1 ⟨rfl, rfl⟩
      go_wp2_with fail
      with_reducible refine HF.out.mono ?_
      rintro e w1 ⟨rfl, hb1⟩
      have HB := Lib.hid hb1
      clear hb1
      go_wp2
      go_ret
      exact ⟨rfl, HB.out⟩
    · have HF := Lib.hid (lfree_yes h hb hl (p : Int) (by omega) j hf)
      rw [hf] at hm
      have HM := Lib.hid hm
      have hj := (freeI_in hf).2.2
      clear hm h hf
      go_enter Try.func25, Try.ntmps25
      go_wp2_with fail
      with_reducible refine HL.out.mono ?_
      rintro e w1 ⟨rfl, rfl⟩
      go_wp2_with fail
      with_reducible refine HF.out.mono ?_
      rintro e w1 ⟨rfl, hb1⟩
      have HB := Lib.hid hb1
      clear hb1
      go_wp2
      go_ret
      exact ⟨rt_b HM.out, HB.out⟩

set_option maxHeartbeats 1000000 in
theorem lhas_any (h : Ar w 60 g base cap A c bs) (hb : base ≤ 4611686018427387904) (hl : bs.length ≤ 16384) (k p q u : Nat) (hk : k < 22) (hp : p < 18446744073709551616) (hq : q ≤ 16) (b : Bool) (hm : memHas bs k p q u = b) :
    Calls Try.prog 28 #[.pointer (some ⟨g, 0, none⟩), .int .i64 (k : Int), .int .u64 (p : Int), .int .i64 (q : Int), .int .u64 (u : Int)] w fun e w' => e = .returned (.bool b) ∧ Below w.heap.size w w' := by
  unfold memHas at hm
  cases hmb : memberB bs p (k : Int) with
  | false =>
    rw [hmb] at hm
    obtain rfl : false = b := hm
    have HM := Lib.hid (lmember_any h hb hl k p hk hp false hmb)
    clear hmb h
    go_enter Try.func28, Try.ntmps28
    go_wp2_with fail
    with_reducible refine HM.out.mono ?_
    rintro e w1 ⟨rfl, hb1⟩
    have HB := Lib.hid hb1
    clear hb1
    go_wp2
    go_ret
    exact ⟨rfl, HB.out⟩
  | true =>
    have hin := memberB_in hmb
    obtain ⟨v, hv⟩ : ∃ v, wordN bs (p + q) = v := ⟨_, rfl⟩
    have hvl : v < 18446744073709551616 := by rw [← hv]; exact wordN_lt _ _
    rw [hmb, hv, Bool.true_and] at hm
    have hm2 : ((v : Int) == (u : Int)) = b := by rw [← hm, Bool.eq_iff_iff, beq_iff_eq, beq_iff_eq]; omega
    have HM := Lib.hid (lmember_any h hb hl k p hk hp true hmb)
    have HN := Lib.hid (fun w1 (hb1 : Below w.heap.size w w1) => lnumber_any (h.below hb1) hb hl ((p : Int) + (q : Int)) (p + q) (by omega) (by omega) v hv)
    have HV := Lib.hid hm2
    clear hmb h hm hm2 hv
    go_enter Try.func28, Try.ntmps28
    go_wp2_with fail
    with_reducible refine HM.out.mono ?_
    rintro e w1 ⟨rfl, hb1⟩
    have HB := Lib.hid hb1
    clear hb1
    go_wp2_with fail
    refine (HN.out _ HB.out).mono ?_
    rintro e w2 ⟨rfl, rfl⟩
    go_wp2
    go_ret
    exact ⟨rt_b HV.out, HB.out⟩

set_option maxHeartbeats 1000000 in
theorem lhasbit_any (h : Ar w 60 g base cap A c bs) (hb : base ≤ 4611686018427387904) (hl : bs.length ≤ 16384) (hl2 : 184 ≤ bs.length) (k : Nat) (hk : k < 22) (b : Bool) (hm : bitN (wordN bs 0) k = b) :
    Calls Try.prog 30 #[.pointer (some ⟨g, 0, none⟩), .int .i64 (k : Int)] w fun e w' => e = .returned (.bool b) ∧ w = w' := by
  obtain ⟨v, hv⟩ : ∃ v, wordN bs 0 = v := ⟨_, rfl⟩
  have hvl : v < 18446744073709551616 := by rw [← hv]; exact wordN_lt _ _
  have HN := Lib.hid (lnumber_any h hb hl 0 0 rfl (by omega) v hv)
  rw [hv] at hm
  have HV := Lib.hid ((and_bit v k hvl hk).trans hm)
  have HT := Lib.hid (lbit_any w k hk)
  obtain ⟨m, hm2⟩ : ∃ m, 2 ^ k = m := ⟨_, rfl⟩
  have hml : m ≤ 2097152 := by rw [← hm2]; exact pow22 k hk
  rw [hm2] at HV HT
  clear hm hv h hm2
  go_enter Try.func30, Try.ntmps30
  go_wp2_with fail
  with_reducible refine HN.out.mono ?_
  rintro e w1 ⟨rfl, rfl⟩
  go_wp2_with fail
  with_reducible refine HT.out.mono ?_
  rintro e w1 ⟨rfl, rfl⟩
  go_wp2
  go_ret
  exact ⟨rt_b HV.out, rfl⟩
end
end Go.Proofs.Ytdhlfhpgfdpjbaa

/- The contract of the program's Put. -/
namespace Go.Proofs.Ytdhlfhpgfdpjbaa
open Go.RowKit

section
variable {w w1 : World} {g base cap c : Nat} {A : Option Addr} {bs b1 : List UInt8}
theorem became_of (h : Ar w 60 g base cap A c bs) (hb : Below w.heap.size w w1) : Became 60 g base cap A bs w w1 := ⟨A, c, h.below hb, Tch.of_below hb, .inl rfl⟩
theorem became_set (h : Became 60 g base cap A b1 w w1) (hb : base ≤ 4611686018427387904) (hl : b1.length ≤ 16384) (o : Int) (p : Nat) (hp : o = (p : Int)) (ho : p + 8 ≤ b1.length) (v : Nat) (hv : v < 18446744073709551616) :
    Calls Try.prog 26 #[.pointer (some ⟨g, 0, none⟩), .int .i64 o, .int .u64 (v : Int)] w1 fun e w2 => e = .returned (.tuple #[]) ∧ Became 60 g base cap A (lyN b1 p v) w w2 :=
  step_became h fun _ _ a => lset_any a hb hl o p hp ho v hv
theorem became_num (h : Became 60 g base cap A b1 w w1) (hb : base ≤ 4611686018427387904) (hl : b1.length ≤ 16384) (o : Int) (p : Nat) (hp : o = (p : Int)) (ho : p + 8 ≤ b1.length) (v : Nat) (hv : wordN b1 p = v) :
    Calls Try.prog 23 #[.pointer (some ⟨g, 0, none⟩), .int .i64 o] w1 fun e w2 => e = .returned (.int .u64 (v : Int)) ∧ w1 = w2 := by
  obtain ⟨_, _, a, _, _⟩ := h
  exact lnumber_any a hb hl o p hp ho v hv

set_option maxRecDepth 100000 in
set_option maxHeartbeats 1000000 in
theorem lsetfirst_no (h : Ar w 60 g base cap A c bs) (hb : base ≤ 4611686018427387904) (n : Nat) (hn : bs.length = n) (hl : n ≤ 16384) (hl2 : 184 ≤ n) (k : Nat) (hk : k < 22) :
    Calls Try.prog 27 #[.pointer (some ⟨g, 0, none⟩), .int .i64 (k : Int), .int .u64 0] w fun e w' => e = .returned (.tuple #[]) ∧ Became 60 g base cap A (markB (lyN bs (8 + 8 * k) 0) k) w w' := by
  obtain ⟨b1, hb1⟩ : ∃ b1, lyN bs (8 + 8 * k) 0 = b1 := ⟨_, rfl⟩
  have hbl : b1.length = n := by rw [← hb1, lyN_length _ _ _ (by omega)]; exact hn
  have hw1 : wordN b1 (8 + 8 * k) = 0 := by rw [← hb1]; exact wordN_same _ _ _ (by omega) (by omega)
  obtain ⟨v0, hv0⟩ : ∃ v0, wordN b1 0 = v0 := ⟨_, rfl⟩
  have hvl : v0 < 18446744073709551616 := by rw [← hv0]; exact wordN_lt _ _
  obtain ⟨m, hm⟩ : ∃ m, 2 ^ k = m := ⟨_, rfl⟩
  have hml : m ≤ 2097152 := by rw [← hm]; exact pow22 k hk
  obtain ⟨x, hx⟩ : ∃ x, bitTo v0 k false = x := ⟨_, rfl⟩
  have hxl : x < 18446744073709551616 := by rw [← hx]; exact bitTo_lt v0 k hk hvl false
  have hand : bits .andNot .u64 (v0 : Int) (m : Int) = (x : Int) := by rw [← hm, ← hx]; exact andnot_bit v0 k hvl hk
  have hmk : markB b1 k = lyN b1 0 x := by rw [markB_eq b1 k (by omega), hw1, hv0]; simpa using congrArg (lyN b1 0) hx
  have HS1 := lset_any h hb (by omega) (8 + 8 * (k : Int)) (8 + 8 * k) (by omega) (by omega) 0 (by omega)
  rw [hb1] at HS1 ⊢
  rw [hmk]
  have HS1 := Lib.hid HS1
  have HF := Lib.hid (lfirst_any w k hk)
  have HT := fun W => lbit_any W k hk
  rw [hm] at HT
  have HT := Lib.hid HT
  have HN := Lib.hid (fun W (hB : Became 60 g base cap A b1 w W) => became_num hB hb (by omega) 0 0 rfl (by omega) v0 hv0)
  have HS2 := Lib.hid (fun W (hB : Became 60 g base cap A b1 w W) => became_set hB hb (by omega) 0 0 rfl (by omega) x hxl)
  clear h hb1 hw1 hv0 hm hx hmk hn hbl
  go_enter Try.func27, Try.ntmps27
  go_wp2_with fail
  with_reducible refine HF.out.mono ?_
  rintro e w2 ⟨rfl, rfl⟩
  go_wp2_with fail
  refine HS1.out.mono ?_
  rintro e w2 ⟨rfl, be1⟩
  have B1 := Lib.hid be1
  clear be1
  go_wp2_with fail
  refine (HN.out _ B1.out).mono ?_
  rintro e w3 ⟨rfl, rfl⟩
  go_wp2_with fail
  with_reducible refine (HT.out _).mono ?_
  rintro e w3 ⟨rfl, rfl⟩
  go_wp2_with fail
  refine (HS2.out _ B1.out).mono ?_
  rintro e w3 ⟨rfl, be2⟩
  have B2 := Lib.hid be2
  clear be2
  go_wp2
  go_end0
  exact ⟨rfl, B2.out⟩

set_option maxRecDepth 100000 in
set_option maxHeartbeats 1000000 in
theorem lsetfirst_yes (h : Ar w 60 g base cap A c bs) (hb : base ≤ 4611686018427387904) (n : Nat) (hn : bs.length = n) (hl : n ≤ 16384) (hl2 : 184 ≤ n) (k : Nat) (hk : k < 22) (v : Nat) (hv : v < 18446744073709551616) (hv0 : v ≠ 0) :
    Calls Try.prog 27 #[.pointer (some ⟨g, 0, none⟩), .int .i64 (k : Int), .int .u64 (v : Int)] w fun e w' => e = .returned (.tuple #[]) ∧ Became 60 g base cap A (markB (lyN bs (8 + 8 * k) v) k) w w' := by
  obtain ⟨b1, hb1⟩ : ∃ b1, lyN bs (8 + 8 * k) v = b1 := ⟨_, rfl⟩
  have hbl : b1.length = n := by rw [← hb1, lyN_length _ _ _ (by omega)]; exact hn
  have hw1 : wordN b1 (8 + 8 * k) = v := by rw [← hb1]; exact wordN_same _ _ _ (by omega) (by omega)
  obtain ⟨v1, hv1⟩ : ∃ v1, wordN b1 0 = v1 := ⟨_, rfl⟩
  have hvl : v1 < 18446744073709551616 := by rw [← hv1]; exact wordN_lt _ _
  obtain ⟨m, hm⟩ : ∃ m, 2 ^ k = m := ⟨_, rfl⟩
  have hml : m ≤ 2097152 := by rw [← hm]; exact pow22 k hk
  obtain ⟨x, hx⟩ : ∃ x, bitTo v1 k false = x := ⟨_, rfl⟩
  obtain ⟨y, hy⟩ : ∃ y, bitTo v1 k true = y := ⟨_, rfl⟩
  have hxl : x < 18446744073709551616 := by rw [← hx]; exact bitTo_lt v1 k hk hvl false
  have hyl : y < 18446744073709551616 := by rw [← hy]; exact bitTo_lt v1 k hk hvl true
  have hand : bits .andNot .u64 (v1 : Int) (m : Int) = (x : Int) := by rw [← hm, ← hx]; exact andnot_bit v1 k hvl hk
  have hor : bits .or .u64 (x : Int) (m : Int) = (y : Int) := by
    rw [← hy, bitTo_on, hx, ← hm]
    exact or_bit x k hxl hk (by rw [← hx]; exact bitTo_off v1 k)
  have hmk : markB b1 k = lyN b1 0 y := by rw [markB_eq b1 k (by omega), hw1, hv1, decide_eq_true hv0, hy]
  have hne : ((v : Int) != 0) = true := by rw [bne_iff_ne]; omega
  have HS1 := lset_any h hb (by omega) (8 + 8 * (k : Int)) (8 + 8 * k) (by omega) (by omega) v hv
  rw [hb1] at HS1 ⊢
  rw [hmk]
  have HS1 := Lib.hid HS1
  have HF := Lib.hid (lfirst_any w k hk)
  have HT := fun W => lbit_any W k hk
  rw [hm] at HT
  have HT := Lib.hid HT
  have HN := Lib.hid (fun W (hB : Became 60 g base cap A b1 w W) => became_num hB hb (by omega) 0 0 rfl (by omega) v1 hv1)
  have HS2 := Lib.hid (fun W (hB : Became 60 g base cap A b1 w W) => became_set hB hb (by omega) 0 0 rfl (by omega) y hyl)
  clear h hb1 hw1 hv1 hm hx hy hmk hn hbl
  go_enter Try.func27, Try.ntmps27
  go_wp2_with fail
  with_reducible refine HF.out.mono ?_
  rintro e w2 ⟨rfl, rfl⟩
  go_wp2_with fail
  refine HS1.out.mono ?_
  rintro e w2 ⟨rfl, be1⟩
  have B1 := Lib.hid be1
  clear be1
  go_wp2_with fail
  refine (HN.out _ B1.out).mono ?_
  rintro e w3 ⟨rfl, rfl⟩
  go_wp2_with fail
  with_reducible refine (HT.out _).mono ?_
  rintro e w3 ⟨rfl, rfl⟩
  go_wp2_with fail
  with_reducible refine (HT.out _).mono ?_
  rintro e w3 ⟨rfl, rfl⟩
  go_wp2_with fail
  refine (HS2.out _ B1.out).mono ?_
  rintro e w3 ⟨rfl, be2⟩
  have B2 := Lib.hid be2
  clear be2
  go_wp2
  go_end0
  exact ⟨rfl, B2.out⟩

theorem became_first (h : Became 60 g base cap A b1 w w1) (hb : base ≤ 4611686018427387904) (n : Nat) (hn : b1.length = n) (hl : n ≤ 16384) (hl2 : 184 ≤ n) (k : Nat) (hk : k < 22) (v : Nat) (hv : v < 18446744073709551616) :
    Calls Try.prog 27 #[.pointer (some ⟨g, 0, none⟩), .int .i64 (k : Int), .int .u64 (v : Int)] w1 fun e w2 => e = .returned (.tuple #[]) ∧ Became 60 g base cap A (markB (lyN b1 (8 + 8 * k) v) k) w w2 := by
  refine step_became h fun _ _ a => ?_
  by_cases h0 : v = 0
  · subst h0
    exact lsetfirst_no a hb n hn hl hl2 k hk
  · exact lsetfirst_yes a hb n hn hl hl2 k hk v hv h0
end
end Go.Proofs.Ytdhlfhpgfdpjbaa

/- The contract of the program's Put (genlst.py). -/
namespace Go.Proofs.Ytdhlfhpgfdpjbaa
open Go.RowKit

section
variable {w : World} {g base cap c : Nat} {A : Option Addr} {bs : List UInt8}
set_option maxRecDepth 100000 in
set_option maxHeartbeats 2000000 in
theorem lput_no (h : Ar w 60 g base cap A c bs) (hb : base ≤ 4611686018427387904) (n : Nat) (hn : bs.length = n) (hl : n ≤ 16384) (o : Int) (ho : -9223372036854775808 ≤ o ∧ o ≤ 9223372036854775807) (hk : freeI bs o < 0) :
    Calls Try.prog 9 #[.pointer (some ⟨g, 0, none⟩), .int .i64 o] w fun e w' => e = .returned (errV false 3) ∧ Below w.heap.size w w' := by
  have HF := Lib.hid (lfree_no h hb (by omega) o ho hk)
  clear h hk hn
  go_enter Try.func9, Try.ntmps9
  go_wp2_with fail
  with_reducible refine HF.out.mono ?_
  rintro e w1 ⟨rfl, hb1⟩
  have HB := Lib.hid hb1
  clear hb1
  go_wp2
  go_ret
  exact ⟨rfl, HB.out⟩

set_option maxRecDepth 100000 in
set_option maxHeartbeats 2000000 in
theorem lput_same (h : Ar w 60 g base cap A c bs) (hb : base ≤ 4611686018427387904) (n : Nat) (hn : bs.length = n) (hl : n ≤ 16384) (p k f : Nat) (hk : freeI bs (p : Int) = (k : Int)) (hf : wordN bs (8 + 8 * k) = f) (hfp : f = p) :
    Calls Try.prog 9 #[.pointer (some ⟨g, 0, none⟩), .int .i64 (p : Int)] w fun e w' => e = .returned (errV false 3) ∧ Below w.heap.size w w' := by
  obtain ⟨p184, p32, k22⟩ := freeI_in hk
  have hfl : f < 18446744073709551616 := by rw [← hf]; exact wordN_lt _ _
  have HF := Lib.hid (lfree_yes h hb (by omega) (p : Int) (by omega) k hk)
  have HFA := Lib.hid (fun W => lfirst_any W k k22)
  have HNF := Lib.hid (fun W (hB : Below w.heap.size w W) => lnumber_any (h.below hB) hb (by omega) (8 + 8 * (k : Int)) (8 + 8 * k) (by omega) (by omega) f hf)
  have hp2 : p + 32 ≤ n := by omega
  have hp3 : 184 ≤ p := by omega
  have s1 : ((f : Int) == (p : Int)) = true := by rw [beq_iff_eq]; omega
  clear h hk hf hn hfp
  go_enter Try.func9, Try.ntmps9
  go_wp2_with fail
  with_reducible refine HF.out.mono ?_
  rintro e w1 ⟨rfl, hb1⟩
  have HB := Lib.hid hb1
  clear hb1 HF
  go_wp2_with fail
  refine (HFA.out _).mono ?_
  rintro e w9 ⟨rfl, rfl⟩
  go_wp2_with fail
  refine (HNF.out _ HB.out).mono ?_
  rintro e w9 ⟨rfl, rfl⟩
  clear HFA HNF
  go_wp2
  go_ret
  exact ⟨rfl, HB.out⟩

set_option maxRecDepth 100000 in
set_option maxHeartbeats 2000000 in
theorem lput_other (h : Ar w 60 g base cap A c bs) (hb : base ≤ 4611686018427387904) (n : Nat) (hn : bs.length = n) (hl : n ≤ 16384) (p k f : Nat) (hk : freeI bs (p : Int) = (k : Int)) (hf : wordN bs (8 + 8 * k) = f) (hfp : f ≠ p) (hf0 : f ≠ 0) (hm : memberB bs f (k : Int) = false) :
    Calls Try.prog 9 #[.pointer (some ⟨g, 0, none⟩), .int .i64 (p : Int)] w fun e w' => e = .returned (errV false 3) ∧ Below w.heap.size w w' := by
  obtain ⟨p184, p32, k22⟩ := freeI_in hk
  have hfl : f < 18446744073709551616 := by rw [← hf]; exact wordN_lt _ _
  have HF := Lib.hid (lfree_yes h hb (by omega) (p : Int) (by omega) k hk)
  have HFA := Lib.hid (fun W => lfirst_any W k k22)
  have HNF := Lib.hid (fun W (hB : Below w.heap.size w W) => lnumber_any (h.below hB) hb (by omega) (8 + 8 * (k : Int)) (8 + 8 * k) (by omega) (by omega) f hf)
  have hp2 : p + 32 ≤ n := by omega
  have hp3 : 184 ≤ p := by omega
  have HM := Lib.hid (fun W (hB : Below w.heap.size w W) => lmember_any (h.below hB) hb (by omega) k f k22 hfl _ hm)
  have s1 : ((f : Int) == (p : Int)) = false := by rw [beq_eq_false_iff_ne]; omega
  have s2 : ((f : Int) != 0) = true := by rw [bne_iff_ne]; omega
  clear h hk hf hn hm
  go_enter Try.func9, Try.ntmps9
  go_wp2_with fail
  with_reducible refine HF.out.mono ?_
  rintro e w1 ⟨rfl, hb1⟩
  have HB := Lib.hid hb1
  clear hb1 HF
  go_wp2_with fail
  refine (HFA.out _).mono ?_
  rintro e w9 ⟨rfl, rfl⟩
  go_wp2_with fail
  refine (HNF.out _ HB.out).mono ?_
  rintro e w9 ⟨rfl, rfl⟩
  clear HFA HNF
  go_wp2_with fail
  refine (HM.out _ HB.out).mono ?_
  rintro e w2 ⟨rfl, hb2⟩
  have HB2 := Lib.hid (HB.out.trans (hb2.mono HB.out.size))
  clear hb2 HM HB
  go_wp2
  go_ret
  exact ⟨rfl, HB2.out⟩

set_option maxRecDepth 100000 in
set_option maxHeartbeats 2000000 in
theorem lput_empty (h : Ar w 60 g base cap A c bs) (hb : base ≤ 4611686018427387904) (n : Nat) (hn : bs.length = n) (hl : n ≤ 16384) (p k f : Nat) (hk : freeI bs (p : Int) = (k : Int)) (hf : wordN bs (8 + 8 * k) = f) (hf0 : f = 0) :
    Calls Try.prog 9 #[.pointer (some ⟨g, 0, none⟩), .int .i64 (p : Int)] w fun e w' => e = .returned (errV true 3) ∧ Became 60 g base cap A (markB (lyN (lyN (lyN bs (p + 8) f) (p + 16) 0) (8 + 8 * k) p) k) w w' := by
  obtain ⟨p184, p32, k22⟩ := freeI_in hk
  have hfl : f < 18446744073709551616 := by rw [← hf]; exact wordN_lt _ _
  have HF := Lib.hid (lfree_yes h hb (by omega) (p : Int) (by omega) k hk)
  have HFA := Lib.hid (fun W => lfirst_any W k k22)
  have HNF := Lib.hid (fun W (hB : Below w.heap.size w W) => lnumber_any (h.below hB) hb (by omega) (8 + 8 * (k : Int)) (8 + 8 * k) (by omega) (by omega) f hf)
  have hp2 : p + 32 ≤ n := by omega
  have hp3 : 184 ≤ p := by omega
  have s1 : ((f : Int) == (p : Int)) = false := by rw [beq_eq_false_iff_ne]; omega
  have s2 : ((f : Int) != 0) = false := by subst hf0; rfl
  have HBO := Lib.hid (fun W (hB : Below w.heap.size w W) => became_of h hB)
  obtain ⟨b1, hb1⟩ : ∃ b, lyN bs (p + 8) f = b := ⟨_, rfl⟩
  have nb1 : b1.length = n := by rw [← hb1, lyN_length _ _ _ (by omega)]; exact hn
  have HS1 := fun W (hB : Became 60 g base cap A bs w W) => became_set hB hb (by omega) ((p : Int) + 8) (p + 8) (by omega) (by omega) f hfl
  rw [hb1] at HS1 ⊢
  have HS1 := Lib.hid HS1
  obtain ⟨b2, hb2⟩ : ∃ b, lyN b1 (p + 16) 0 = b := ⟨_, rfl⟩
  have nb2 : b2.length = n := by rw [← hb2, lyN_length _ _ _ (by omega)]; exact nb1
  have HS2 := fun W (hB : Became 60 g base cap A b1 w W) => became_set hB hb (by omega) ((p : Int) + 16) (p + 16) (by omega) (by omega) 0 (by omega)
  rw [hb2] at HS2 ⊢
  have HS2 := Lib.hid HS2
  have HSF := Lib.hid (fun W (hB : Became 60 g base cap A b2 w W) => became_first hB hb n nb2 hl (by omega) k k22 p (by omega))
  clear hb1 nb1 hb2 nb2
  clear h hk hf hn hf0
  go_enter Try.func9, Try.ntmps9
  go_wp2_with fail
  with_reducible refine HF.out.mono ?_
  rintro e w1 ⟨rfl, hb1⟩
  have HB := Lib.hid hb1
  clear hb1 HF
  go_wp2_with fail
  refine (HFA.out _).mono ?_
  rintro e w9 ⟨rfl, rfl⟩
  go_wp2_with fail
  refine (HNF.out _ HB.out).mono ?_
  rintro e w9 ⟨rfl, rfl⟩
  clear HFA HNF
  have G0 := Lib.hid (HBO.out _ HB.out)
  clear HBO HB
  go_wp2_with fail
  refine (HS1.out _ G0.out).mono ?_
  rintro e x1 ⟨rfl, bb⟩
  have G1 := Lib.hid bb
  clear bb HS1 G0
  go_wp2_with fail
  refine (HS2.out _ G1.out).mono ?_
  rintro e x2 ⟨rfl, bb⟩
  have G2 := Lib.hid bb
  clear bb HS2 G1
  go_wp2_with fail
  refine (HSF.out _ G2.out).mono ?_
  rintro e x9 ⟨rfl, bb⟩
  have G9 := Lib.hid bb
  clear bb HSF G2
  go_wp2
  go_ret
  exact ⟨rfl, G9.out⟩

set_option maxRecDepth 100000 in
set_option maxHeartbeats 2000000 in
theorem lput_member (h : Ar w 60 g base cap A c bs) (hb : base ≤ 4611686018427387904) (n : Nat) (hn : bs.length = n) (hl : n ≤ 16384) (p k f : Nat) (hk : freeI bs (p : Int) = (k : Int)) (hf : wordN bs (8 + 8 * k) = f) (hfp : f ≠ p) (hf0 : f ≠ 0) (hm : memberB bs f (k : Int) = true) :
    Calls Try.prog 9 #[.pointer (some ⟨g, 0, none⟩), .int .i64 (p : Int)] w fun e w' => e = .returned (errV true 3) ∧ Became 60 g base cap A (markB (lyN (lyN (lyN (lyN bs (p + 8) f) (p + 16) 0) (f + 16) p) (8 + 8 * k) p) k) w w' := by
  obtain ⟨p184, p32, k22⟩ := freeI_in hk
  have hfl : f < 18446744073709551616 := by rw [← hf]; exact wordN_lt _ _
  have HF := Lib.hid (lfree_yes h hb (by omega) (p : Int) (by omega) k hk)
  have HFA := Lib.hid (fun W => lfirst_any W k k22)
  have HNF := Lib.hid (fun W (hB : Below w.heap.size w W) => lnumber_any (h.below hB) hb (by omega) (8 + 8 * (k : Int)) (8 + 8 * k) (by omega) (by omega) f hf)
  have hp2 : p + 32 ≤ n := by omega
  have hp3 : 184 ≤ p := by omega
  have HM := Lib.hid (fun W (hB : Below w.heap.size w W) => lmember_any (h.below hB) hb (by omega) k f k22 hfl _ hm)
  have s1 : ((f : Int) == (p : Int)) = false := by rw [beq_eq_false_iff_ne]; omega
  have s2 : ((f : Int) != 0) = true := by rw [bne_iff_ne]; omega
  have hfin := memberB_in hm
  have hf16 : f + 16 + 8 ≤ n := by omega
  have hf1 : f ≤ 16384 := by omega
  have HBO := Lib.hid (fun W (hB : Below w.heap.size w W) => became_of h hB)
  obtain ⟨b1, hb1⟩ : ∃ b, lyN bs (p + 8) f = b := ⟨_, rfl⟩
  have nb1 : b1.length = n := by rw [← hb1, lyN_length _ _ _ (by omega)]; exact hn
  have HS1 := fun W (hB : Became 60 g base cap A bs w W) => became_set hB hb (by omega) ((p : Int) + 8) (p + 8) (by omega) (by omega) f hfl
  rw [hb1] at HS1 ⊢
  have HS1 := Lib.hid HS1
  obtain ⟨b2, hb2⟩ : ∃ b, lyN b1 (p + 16) 0 = b := ⟨_, rfl⟩
  have nb2 : b2.length = n := by rw [← hb2, lyN_length _ _ _ (by omega)]; exact nb1
  have HS2 := fun W (hB : Became 60 g base cap A b1 w W) => became_set hB hb (by omega) ((p : Int) + 16) (p + 16) (by omega) (by omega) 0 (by omega)
  rw [hb2] at HS2 ⊢
  have HS2 := Lib.hid HS2
  obtain ⟨b3, hb3⟩ : ∃ b, lyN b2 (f + 16) p = b := ⟨_, rfl⟩
  have nb3 : b3.length = n := by rw [← hb3, lyN_length _ _ _ (by omega)]; exact nb2
  have HS3 := fun W (hB : Became 60 g base cap A b2 w W) => became_set hB hb (by omega) ((f : Int) + 16) (f + 16) (by omega) (by omega) p (by omega)
  rw [hb3] at HS3 ⊢
  have HS3 := Lib.hid HS3
  have HSF := Lib.hid (fun W (hB : Became 60 g base cap A b3 w W) => became_first hB hb n nb3 hl (by omega) k k22 p (by omega))
  clear hb1 nb1 hb2 nb2 hb3 nb3
  clear h hk hf hn hm
  go_enter Try.func9, Try.ntmps9
  go_wp2_with fail
  with_reducible refine HF.out.mono ?_
  rintro e w1 ⟨rfl, hb1⟩
  have HB := Lib.hid hb1
  clear hb1 HF
  go_wp2_with fail
  refine (HFA.out _).mono ?_
  rintro e w9 ⟨rfl, rfl⟩
  go_wp2_with fail
  refine (HNF.out _ HB.out).mono ?_
  rintro e w9 ⟨rfl, rfl⟩
  clear HFA HNF
  go_wp2_with fail
  refine (HM.out _ HB.out).mono ?_
  rintro e w2 ⟨rfl, hb2⟩
  have HB2 := Lib.hid (HB.out.trans (hb2.mono HB.out.size))
  clear hb2 HM HB
  have G0 := Lib.hid (HBO.out _ HB2.out)
  clear HBO HB2
  go_wp2_with fail
  refine (HS1.out _ G0.out).mono ?_
  rintro e x1 ⟨rfl, bb⟩
  have G1 := Lib.hid bb
  clear bb HS1 G0
  go_wp2_with fail
  refine (HS2.out _ G1.out).mono ?_
  rintro e x2 ⟨rfl, bb⟩
  have G2 := Lib.hid bb
  clear bb HS2 G1
  go_wp2_with fail
  refine (HS3.out _ G2.out).mono ?_
  rintro e x3 ⟨rfl, bb⟩
  have G3 := Lib.hid bb
  clear bb HS3 G2
  go_wp2_with fail
  refine (HSF.out _ G3.out).mono ?_
  rintro e x9 ⟨rfl, bb⟩
  have G9 := Lib.hid bb
  clear bb HSF G3
  go_wp2
  go_ret
  exact ⟨rfl, G9.out⟩

end
theorem putC : PutC := by
  intro w g base cap c A bs o y h hb hl ho hy
  subst hy
  rcases freeI_cases bs o with hk | ⟨k, hk⟩
  · have e : putB bs o = none := by unfold putB; rw [if_pos hk]
    rw [e]
    exact lput_no h hb _ rfl hl o ho hk
  · obtain ⟨p184, p32, k22⟩ := freeI_in hk
    obtain ⟨p, rfl⟩ : ∃ p : Nat, o = (p : Int) := ⟨o.toNat, by omega⟩
    obtain ⟨f, hf⟩ : ∃ f, wordN bs (8 + 8 * k) = f := ⟨_, rfl⟩
    have e : putB bs (p : Int) = if (f : Int) = (p : Int) ∨ (f ≠ 0 ∧ memberB bs f (k : Int) = false) then none else some (markB (lyN (if f ≠ 0 then lyN (lyN (lyN bs (p + 8) f) (p + 16) 0) (f + 16) p else lyN (lyN bs (p + 8) f) (p + 16) 0) (8 + 8 * k) p) k) := by
      unfold putB
      rw [hk, if_neg (by omega)]
      simp only [Int.toNat_natCast, hf]
    rw [e]
    by_cases hfp : f = p
    · rw [if_pos (.inl (by omega))]
      exact lput_same h hb _ rfl hl p k f hk hf hfp
    · by_cases hf0 : f = 0
      · rw [if_neg (by omega), if_neg (by omega)]
        exact lput_empty h hb _ rfl hl p k f hk hf hf0
      · cases hm : memberB bs f (k : Int) with
        | false =>
          rw [if_pos (.inr ⟨hf0, rfl⟩)]
          exact lput_other h hb _ rfl hl p k f hk hf hfp hf0 hm
        | true =>
          rw [if_neg (fun h1 => h1.elim (fun h2 => hfp (by omega)) (fun h2 => by cases h2.2)), if_pos hf0]
          exact lput_member h hb _ rfl hl p k f hk hf hfp hf0 hm
end Go.Proofs.Ytdhlfhpgfdpjbaa
