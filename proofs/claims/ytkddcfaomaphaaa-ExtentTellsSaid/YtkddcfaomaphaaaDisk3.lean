/- The contracts of a disk's Flush and Boot. -/
import Derived.Test.YtkddcfaomaphaaaDisk2
namespace Go.Proofs.Ytkddcfaomaphaaa
open Go.RowKit

/-- What stands once a write stands, and once some do. -/
def settled (bs : List UInt8) (x : Nat × List UInt8) : List UInt8 := lay bs (x.1 * 512) x.2
def stand (bs : List UInt8) (l : List (Nat × List UInt8)) : List UInt8 := l.foldl settled bs
/-- Each write fits. -/
def Fits (n : Nat) (l : List (Nat × List UInt8)) : Prop := ∀ x ∈ l, x.1 * 512 + 512 ≤ n ∧ x.2.length = 512

theorem settled_length (bs : List UInt8) (x : Nat × List UInt8) (h : x.1 * 512 + 512 ≤ bs.length) (h2 : x.2.length = 512) : (settled bs x).length = bs.length := lay_length _ _ _ (by omega)
theorem stand_length : ∀ (l : List (Nat × List UInt8)) (bs : List UInt8), Fits bs.length l → (stand bs l).length = bs.length
  | [], _, _ => rfl
  | x :: r, bs, h => by
    have hx := h x (by simp)
    have e := settled_length bs x hx.1 hx.2
    have := stand_length r (settled bs x) (fun y hy => by rw [e]; exact h y (by simp [hy]))
    rw [e] at this
    exact this
theorem stand_snoc (bs : List UInt8) (l : List (Nat × List UInt8)) (x : Nat × List UInt8) : stand bs (l ++ [x]) = settled (stand bs l) x := by simp [stand]

section
variable {S : Nat → Prop} {w : World} {g h c : Nat} {W : Option Addr} {cw : Nat} {bs : List UInt8} {ws : List Wr} {left : Int} {off : Bool}
theorem Dk.fits (k : Dk S w g h c W cw bs ws left off) : Fits bs.length (ws.map Wr.two) := by
  intro x hx
  obtain ⟨y, hy, rfl⟩ := List.mem_map.1 hx
  exact ⟨(k.row y hy).1, (k.row y hy).2.2.1⟩

set_option maxRecDepth 100000 in
set_option maxHeartbeats 1000000 in
theorem dflush_ok (k : Dk S w g h c W cw bs ws left false) (hl : bs.length ≤ 100000) :
    Calls Try.prog 20 #[.pointer (some ⟨g, 0, none⟩)] w fun e w' => e = .returned .nilIface ∧ Dk S w' g h c none 0 (stand bs (ws.map Wr.two)) [] left false ∧ Tch S w w' := by
  have c1 := k.c1
  have c3 := k.c3
  have hwc := k.wcap
  unfold maxLen at hwc
  go_enter Try.func20, Try.ntmps20
  go_wp2
  clear c1 c3
  go_loopw [15] (fun i wr => ∃ j : Nat, j ≤ ws.length ∧ i = .int .i64 j ∧ Dk S wr g h c W cw (stand bs ((ws.take j).map Wr.two)) ws left false ∧ Tch S w wr) (fun i _ => ws.length - (intOf i).toNat)
  case atStart => exact ⟨0, Nat.zero_le _, rfl, k, Tch.refl _ _⟩
  case round =>
    obtain ⟨j, hj, rfl, kr, ht⟩ := hrel
    by_cases hlt : j < ws.length
    · obtain ⟨x, hx⟩ : ∃ x, ws[j]? = some x := ⟨ws[j], List.getElem?_eq_getElem hlt⟩
      obtain ⟨gw, rfl, d0, d1⟩ := kr.at_ hx
      have hxm : x ∈ ws := List.mem_of_getElem? hx
      obtain ⟨x1, x2, x3, x4⟩ := kr.row x hxm
      obtain ⟨w1, hw1⟩ : ∃ w1, wr.alloc (.cells #[.int .i64 (x.s : Int), .slice (some ⟨x.b, 0, none⟩) 512 x.c] 61) = w1 := ⟨_, rfl⟩
      have hb1 : Below wr.heap.size wr w1 := by rw [← hw1]; exact (Below.refl _ _).alloc (Nat.le_refl _) _
      have k1 := kr.below hb1
      have hlen := stand_length ((ws.take j).map Wr.two) bs (fun y hy => k.fits y (by rw [List.map_take] at hy; exact List.mem_of_mem_take hy))
      have HS := Lib.hid (settle_any k1 (by omega) x.s x.b x.c x.d x3 x1 (x4.keep (hb1.block _ x4.lt)))
      have E : Hid (lay (stand bs ((ws.take j).map Wr.two)) (x.s * 512) x.d = stand bs ((ws.take (j + 1)).map Wr.two)) := (show _ = _ by
        rw [List.take_add_one, hx, List.map_append, Option.toList_some, List.map_cons, List.map_nil, stand_snoc]
        rfl)
      have HT := Lib.hid (ht.trans (Tch.of_below (S := S) hb1) (fun _ _ h => h))
      have HSH := Lib.hid k.sh
      have HW1 := Lib.hid hw1
      clear hx x1 x2 x3 x4 k1 hb1 hw1 ht kr hlen k
      go_wp2_with fail
      rw [HW1.out]
      refine HS.out.mono ?_
      rintro e w2 ⟨rfl, k2, t2⟩
      rw [E.out] at k2
      have K2 := Lib.hid k2
      have T2 := Lib.hid (HT.out.trans t2 (fun i _ hi => by rw [hi]; exact HSH.out))
      clear k2 t2 E HS HT d0 d1
      go_wp2
      go_roundw
      case rel => exact ⟨j + 1, by omega, by go_num, K2.out, T2.out⟩
      case measure => simp [intOf]; omega
    · obtain rfl : j = ws.length := by omega
      rw [List.take_length] at kr
      have c1 := kr.c1
      have f1 := kr.thaw 1
      have K2 := Lib.hid kr.none_
      have T2 := Lib.hid (ht.trans (Tch.set (S := S) wr ⟨g, 1, none⟩ (.slice none 0 0) kr.sg) (fun _ _ h => h))
      clear kr ht k
      go_wp2
      go_ret
      exact ⟨rfl, K2.out, T2.out⟩
end

/-- Those of l that are kept. -/
def kept {α : Type} : List α → List Bool → List α
  | x :: r, true :: kb => x :: kept r kb
  | _ :: r, false :: kb => kept r kb
  | _, _ => []
theorem kept_step {α : Type} : ∀ (l : List α) (kb : List Bool) (j : Nat) (x : α), l[j]? = some x → kept (l.take (j + 1)) kb = kept (l.take j) kb ++ (if kb[j]? = some true then [x] else [])
  | [], _, _, _, h => by simp at h
  | y :: r, [], j, x, h => by cases j <;> simp [kept]
  | y :: r, b :: kb, 0, x, h => by
    simp at h
    subst h
    cases b <;> simp [kept]
  | y :: r, b :: kb, j + 1, x, h => by
    have := kept_step r kb j x (by simpa using h)
    cases b <;> simp [kept, this]
theorem kept_mem {α : Type} : ∀ (l : List α) (kb : List Bool) (x : α), x ∈ kept l kb → x ∈ l
  | [], _, _, h => by simp [kept] at h
  | y :: r, [], _, h => by simp [kept] at h
  | y :: r, true :: kb, x, h => by
    simp [kept] at h
    rcases h with rfl | h
    · simp
    · simp [kept_mem r kb x h]
  | y :: r, false :: kb, x, h => by
    simp [kept] at h
    simp [kept_mem r kb x h]

/-- A slice of bools, in no block of S. -/
def Kp (S : Nat → Prop) (w : World) (K : Option Addr) (kb : List Bool) : Prop := 0 < kb.length → ∃ b o, K = some ⟨b, o, none⟩ ∧ b < w.heap.size ∧ ¬ S b ∧ ∀ j u, kb[j]? = some u → w.cell? ⟨b, o + j, none⟩ = some (.bool u)

section
variable {S : Nat → Prop} {w w' : World} {g h c : Nat} {W : Option Addr} {cw : Nat} {bs : List UInt8} {ws : List Wr} {left : Int} {off : Bool} {K : Option Addr} {ck : Nat} {kb : List Bool}
theorem Kp.tch (k : Kp S w K kb) (ht : Tch S w w') : Kp S w' K kb := fun hn => by
  obtain ⟨b, o, e, hb, hs, hc⟩ := k hn
  exact ⟨b, o, e, Nat.lt_of_lt_of_le hb ht.size, hs, fun j u hu => (World.cell?_of_block (w := w) (a := ⟨b, o + j, none⟩) (ht.block b hb hs)).trans (hc j u hu)⟩

set_option maxRecDepth 100000 in
set_option maxHeartbeats 1000000 in
theorem dboot_any (k : Dk S w g h c W cw bs ws left off) (hl : bs.length ≤ 100000) (hk : Kp S w K kb) (hkl : kb.length ≤ 9223372036854775807) :
    Calls Try.prog 16 #[.pointer (some ⟨g, 0, none⟩), .slice K kb.length ck] w fun e w' => e = .returned (.tuple #[]) ∧ Dk S w' g h c none 0 (stand bs (kept (ws.map Wr.two) kb)) [] (-1) false ∧ Tch S w w' := by
  have c1 := k.c1
  have hwc := k.wcap
  unfold maxLen at hwc
  go_enter Try.func16, Try.ntmps16
  go_wp2
  clear c1
  go_loopw [11] (fun i wr => ∃ j : Nat, j ≤ ws.length ∧ i = .int .i64 j ∧ Dk S wr g h c W cw (stand bs (kept ((ws.map Wr.two).take j) kb)) ws left off ∧ Tch S w wr) (fun i _ => ws.length - (intOf i).toNat)
  case atStart => exact ⟨0, Nat.zero_le _, rfl, by simp [kept, stand]; exact k, Tch.refl _ _⟩
  case round =>
    obtain ⟨j, hj, rfl, kr, ht⟩ := hrel
    by_cases hlt : j < ws.length
    · obtain ⟨x, hx⟩ : ∃ x, ws[j]? = some x := ⟨ws[j], List.getElem?_eq_getElem hlt⟩
      obtain ⟨gw, rfl, d0, d1⟩ := kr.at_ hx
      have hxm : x ∈ ws := List.mem_of_getElem? hx
      obtain ⟨x1, x2, x3, x4⟩ := kr.row x hxm
      obtain ⟨w1, hw1⟩ : ∃ w1, wr.alloc (.cells #[.int .i64 (x.s : Int), .slice (some ⟨x.b, 0, none⟩) 512 x.c] 61) = w1 := ⟨_, rfl⟩
      have hb1 : Below wr.heap.size wr w1 := by rw [← hw1]; exact (Below.refl _ _).alloc (Nat.le_refl _) _
      have k1 := kr.below hb1
      have hlen := stand_length (kept ((ws.map Wr.two).take j) kb) bs (fun y hy => k.fits y (List.mem_of_mem_take (kept_mem _ _ _ hy)))
      have HS := Lib.hid (settle_any k1 (by omega) x.s x.b x.c x.d x3 x1 (x4.keep (hb1.block _ x4.lt)))
      have E := kept_step (ws.map Wr.two) kb j (Wr.two x) (by rw [List.getElem?_map, hx]; rfl)
      have HT := Lib.hid (ht.trans (Tch.of_below (S := S) hb1) (fun _ _ h => h))
      have HSH := Lib.hid k.sh
      have K1 := Lib.hid k1
      have hkr := hk.tch HT.out
      have HW1 := Lib.hid hw1
      by_cases hkj : kb[j]? = some true
      · rw [if_pos hkj] at E
        have hjl : j < kb.length := by
          rcases Nat.lt_or_ge j kb.length with h | h
          · exact h
          · rw [List.getElem?_eq_none h] at hkj; cases hkj
        obtain ⟨b, o, rfl, _, _, hcb⟩ := hkr (by omega)
        have q := hcb j true hkj
        rw [← hw1] at q
        have E2 : Hid (lay (stand bs (kept ((ws.map Wr.two).take j) kb)) (x.s * 512) x.d = stand bs (kept ((ws.map Wr.two).take (j + 1)) kb)) := (show _ = _ by
          rw [E, stand_snoc]
          rfl)
        clear hx x1 x2 x3 x4 k1 hb1 hw1 ht kr hlen hkr E hkj hcb k
        go_wp2_with fail
        rw [HW1.out]
        refine HS.out.mono ?_
        rintro e w2 ⟨rfl, k2, t2⟩
        rw [E2.out] at k2
        have K2 := Lib.hid k2
        have T2 := Lib.hid (HT.out.trans t2 (fun i _ hi => by rw [hi]; exact HSH.out))
        clear k2 t2 E2 HS HT d0 d1 q
        go_wp2
        go_roundw
        case rel => exact ⟨j + 1, by omega, by go_num, K2.out, T2.out⟩
        case measure => simp [intOf]; omega
      · rw [if_neg hkj, List.append_nil] at E
        have K2 : Hid (Dk S w1 g h c (some ⟨gw, 0, none⟩) cw (stand bs (kept ((ws.map Wr.two).take (j + 1)) kb)) ws left off) := by rw [E]; exact k1
        by_cases hjl : j < kb.length
        · have hkf : kb[j]? = some false := by
            rw [List.getElem?_eq_getElem hjl] at hkj ⊢
            cases h : kb[j] <;> simp_all
          obtain ⟨b, o, rfl, _, _, hcb⟩ := hkr (by omega)
          have q := hcb j false hkf
          rw [← hw1] at q
          clear hx x1 x2 x3 x4 k1 hb1 hw1 ht kr hlen hkr E hkj hcb k hkf
          go_wp2
          rw [HW1.out]
          go_roundw
          case rel => exact ⟨j + 1, by omega, by go_num, K2.out, HT.out⟩
          case measure => simp [intOf]; omega
        · clear hx x1 x2 x3 x4 k1 hb1 hw1 ht kr hlen hkr E hkj k
          go_wp2
          rw [HW1.out]
          go_roundw
          case rel => exact ⟨j + 1, by omega, by go_num, K2.out, HT.out⟩
          case measure => simp [intOf]; omega
    · obtain rfl : j = ws.length := by omega
      rw [List.take_of_length_le (by simp)] at kr
      have c1 := kr.c1
      have f1 := kr.thaw 1
      have k2 := kr.none_
      have d2 := k2.c2
      have f2 := k2.thaw 2
      have k3 := k2.set2 (-1)
      have d3 := k3.c3
      have f3 := k3.thaw 3
      have K4 := Lib.hid (k3.set3 false)
      have T4 := Lib.hid (((ht.trans (Tch.set (S := S) wr ⟨g, 1, none⟩ (.slice none 0 0) kr.sg) (fun _ _ h => h)).trans (Tch.set (S := S) _ ⟨g, 2, none⟩ (.int .i64 (-1)) kr.sg) (fun _ _ h => h)).trans (Tch.set (S := S) _ ⟨g, 3, none⟩ (.bool false) kr.sg) (fun _ _ h => h))
      clear kr ht k k2 k3 hk
      go_wp2
      go_end0
      exact ⟨rfl, K4.out, T4.out⟩
end
end Go.Proofs.Ytkddcfaomaphaaa
