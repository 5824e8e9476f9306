/- Texts of mine, joined: Ref11, Law08, Cls1, Spec7, Blk1, Blk2, Blk3, Blk4, Blk5, St7, Fork, Spec9, Lst1, Lst2, Lst3, Lst4. -/
import Derived.Lib.Strings
import Derived.Lib.Slices
import Derived.Lib.Small
import Derived.Lib.Walk
import Derived.Lib.BitFns
import Derived.Test.YtbemaoncakcnjaaGreatM5

/- The contracts of the document's own check: in, Check. -/
namespace Go.Proofs.YtbemaoncakcnjaaGreat
open Go.RowKit

def nats (l : List Nat) : List Int := l.map fun n : Nat => (n : Int)
theorem own_ints {w : World} {base n : Nat} {t : TypeId} {A : Option Addr} {c : Nat} {l : List Nat} (h : w.ownsRow base t 1 (.slice A n c) n (l.map iV)) (hn : n = l.length) : IRd w w.heap.size A (nats l) := fun h0 => by
  have h0 : 0 < l.length := by simpa [nats] using h0
  rcases h.2 with ⟨_, h0'⟩ | ⟨g, _, _, h', _⟩
  · omega
  · injection h' with e
    subst e
    refine ⟨g, 0, rfl, (h.lt g rfl).2, fun j x hx => ?_⟩
    have hj : j < l.length := by
      rcases Nat.lt_or_ge j l.length with h | h
      · exact h
      · rw [nats, List.getElem?_map, List.getElem?_eq_none h] at hx; cases hx
    rw [Nat.zero_add, h.cellAt j (by omega), List.getElem?_map]
    rw [nats, List.getElem?_map] at hx
    cases hl : l[j]? with
    | none => rw [hl] at hx; cases hx
    | some y => rw [hl] at hx; injection hx with hx; rw [← hx]; rfl

theorem countP_take {α : Type} {p : α → Bool} {l : List α} {j : Nat} {x : α} (h : l[j]? = some x) : (l.take (j + 1)).countP p = (l.take j).countP p + if p x = true then 1 else 0 := by
  rw [List.take_add_one, h, List.countP_append]
  simp [List.countP_cons]
theorem any_take {α : Type} {p : α → Bool} {l : List α} {j : Nat} {x : α} (h : l[j]? = some x) : (l.take (j + 1)).any p = ((l.take j).any p || p x) := by
  rw [List.take_add_one, h, List.any_append]
  simp

section
variable (w : World)
set_option maxRecDepth 100000 in
set_option maxHeartbeats 2000000 in
theorem rin_any (A : Option Addr) (c B : Nat) (l : List Nat) (hr : IRd w B A (nats l)) (hl : l.length ≤ 140737488355328) (o : Nat) (k : Nat) (hk : l.count o = k) :
    Calls Tryz.prog 31 #[.slice A l.length c, .int .i64 (o : Int)] w fun e w' => e = .returned (.int .i64 (k : Int)) ∧ w = w' := by
  have HR := Lib.hid hr
  have HK := Lib.hid hk
  clear hr hk
  go_enter Tryz.func31, Tryz.ntmps31
  go_wp2
  go_loopw [5, 6] (fun q t wr => ∃ j k' : Nat, t = .int .i64 (j : Int) ∧ q = .int .i64 (k' : Int) ∧ j ≤ l.length ∧ (l.take j).countP (· == o) = k' ∧ w = wr) (fun _ t _ => l.length - (intOf t).toNat)
  case atStart => exact ⟨0, 0, rfl, rfl, Nat.zero_le _, rfl, rfl⟩
  case round =>
    obtain ⟨j, k', rfl, rfl, hj, hkk, rfl⟩ := hrel
    by_cases hlt : j < l.length
    · obtain ⟨x, hx⟩ : ∃ x, l[j]? = some x := ⟨l[j], List.getElem?_eq_getElem hlt⟩
      obtain ⟨b, a, rfl, _, hc⟩ := HR.out (by simp [nats]; omega)
      have p0 := hc j x (by rw [nats, List.getElem?_map, hx]; rfl)
      have hle : k' ≤ j := by rw [← hkk]; exact Nat.le_trans List.countP_le_length (by rw [List.length_take]; omega)
      have hnx := countP_take (p := (· == o)) hx
      rw [hkk] at hnx
      have HNX := Lib.hid hnx
      clear hc hx hkk hnx
      by_cases he : x = o
      · have e1 : ((x : Int) == (o : Int)) = true := by rw [he]; simp
        have HE := Lib.hid he
        clear he
        go_wp2
        go_roundw
        case rel => exact ⟨j + 1, k' + 1, by go_num, by go_num, by omega, by rw [HNX.out, if_pos (by rw [HE.out]; simp)], trivial⟩
        case measure => simp only [intOf]; omega
      · have e1 : ((x : Int) == (o : Int)) = false := by rw [beq_eq_false_iff_ne]; omega
        have HE := Lib.hid he
        clear he
        go_wp2
        go_roundw
        case rel => exact ⟨j + 1, k', by go_num, rfl, by omega, by rw [HNX.out, if_neg (by simpa using HE.out)]; rfl, trivial⟩
        case measure => simp only [intOf]; omega
    · have hf : k' = k := by
        rw [← HK.out, ← hkk, List.take_of_length_le (by omega)]; rfl
      have HF := Lib.hid hf
      clear hf hkk
      go_wp2
      go_ret
      exact ⟨pk_i (by rw [HF.out]), rfl⟩

set_option maxRecDepth 100000 in
set_option maxHeartbeats 4000000 in
theorem rcheck_any (A : Option Addr) (ca : Nat) (bs : List UInt8) (n : Nat) (hn : bs.length = n) (hr : Rd w w.heap.size A n bs) (hlc : n ≤ ca) (hl : n ≤ 100000) (x : Bool) (hx : checkB bs = x) :
    Calls Tryz.prog 7 #[.slice A n ca] w fun e w' => e = .returned (.bool x) ∧ Below w.heap.size w w' := by
  subst hn
  cases hw : walkB bs with
  | none =>
    obtain rfl : false = x := by rw [← hx]; unfold checkB; rw [hw]
    have hW := rwalkB_any w A ca w.heap.size bs hr (Nat.le_refl _) hlc hl none hw
    dsimp only [BksTold, Option.isSome, Option.getD] at hW
    have HW := Lib.hid hW
    clear hW hr hw hx
    go_enter Tryz.func7, Tryz.ntmps7
    go_wp2_with fail
    with_reducible refine HW.out.mono ?_
    rintro e w1 ⟨A', c', rfl, _, hb⟩
    go_wp2
    go_ret
    exact ⟨rfl, hb⟩
  | some l =>
    obtain ⟨v, hv⟩ : ∃ v, numO bs 0 = v := ⟨_, rfl⟩
    have hx' : (decide (v < 4194304) && (noAdj l && chkC bs l 22 0 (cntFree l))) = x := by rw [← hx]; unfold checkB; rw [hw, ← hv]
    have hW := rwalkB_any w A ca w.heap.size bs hr (Nat.le_refl _) hlc hl _ hw
    dsimp only [BksTold, Option.isSome, Option.getD] at hW
    have HW := Lib.hid hW
    have hll := walkB_len hw
    have HR := Lib.hid hr
    have HN := Lib.hid (fun (W : World) (hb : Below w.heap.size w W) => rnum_any W A ca w.heap.size bs (hr.below hb) hlc (by omega) 0 (by omega) v hv)
    by_cases hvv : 4194304 ≤ v
    · obtain rfl : false = x := by rw [← hx', decide_eq_false (by omega)]; rfl
      have e1 : decide (4194304 ≤ v) = true := decide_eq_true hvv
      have e2 : decide ((4194304 : Int) ≤ (v : Int)) = true := decide_eq_true (by omega)
      clear hW hr hw hx hx' hvv hv
      go_enter Tryz.func7, Tryz.ntmps7
      go_wp2_with fail
      with_reducible refine HW.out.mono ?_
      rintro e w1 ⟨A', c', rfl, _, hb⟩
      have HB := Lib.hid hb
      clear hb
      go_wp2_with fail
      refine (HN.out w1 HB.out).mono ?_
      rintro e w2 ⟨rfl, rfl⟩
      go_wp2
      go_ret
      exact ⟨rfl, HB.out⟩
    · have e1 : decide (4194304 ≤ v) = false := decide_eq_false hvv
      have e2 : decide ((4194304 : Int) ≤ (v : Int)) = false := decide_eq_false (by omega)
      have hx2 : (noAdj l && chkC bs l 22 0 (cntFree l)) = x := by rw [← hx', decide_eq_true (by omega), Bool.true_and]
      have HX := Lib.hid hx2
      obtain ⟨B0, hB0⟩ : ∃ B0, w.heap.size = B0 := ⟨_, rfl⟩
      have HB0 := Lib.hid hB0
      clear hW hr hw hx hx' hx2 hvv hv hB0
      go_enter Tryz.func7, Tryz.ntmps7
      go_wp2_with fail
      with_reducible refine HW.out.mono ?_
      rintro e w1 ⟨A3, c3, rfl, ho, hb⟩
      have HB1 : Hid (Below B0 w w1) := by rw [← HB0.out]; exact hb
      have HBN := Lib.hid hb
      have HBK := Lib.hid (own_bks ho rfl)
      have hB1 : B0 ≤ w1.heap.size := by have := hb.size; have := HB0.out; omega
      clear hb ho HW
      go_wp2_with fail
      refine (HN.out w1 HBN.out).mono ?_
      rintro e w2 ⟨rfl, rfl⟩
      clear HN HBN
      go_wp2
      go_loopw [5, 6] (fun f t wr => ∃ j k : Nat, t = .int .i64 (j : Int) ∧ f = .int .i64 (k : Int) ∧ j ≤ l.length ∧ (l.take j).countP (fun x => !x.used) = k ∧ (∀ i, i < j → pairOk l i = true) ∧ w1 = wr) (fun _ t _ => l.length - (intOf t).toNat)
      case atStart => exact ⟨0, 0, rfl, rfl, Nat.zero_le _, rfl, (fun i h => by omega), rfl⟩
      case round =>
        obtain ⟨j, k, rfl, rfl, hj, hk, hpa, rfl⟩ := hrel
        by_cases hlt : j < l.length
        · obtain ⟨y, hy⟩ : ∃ y, l[j]? = some y := ⟨l[j], List.getElem?_eq_getElem hlt⟩
          obtain ⟨b, a, rfl, _, hc⟩ := HBK.out (by omega)
          obtain ⟨_, _, p2⟩ := hc j y hy
          have hkj : k ≤ j := by rw [← hk]; exact Nat.le_trans List.countP_le_length (by rw [List.length_take]; omega)
          have hnx := countP_take (p := fun x : Bk => !x.used) hy
          rw [hk] at hnx
          have huj : usedAt l j = y.used := by unfold usedAt; rw [hy]
          obtain ⟨yo, ys, yu⟩ := y
          dsimp only at p2 huj hnx
          have HUJ := Lib.hid huj
          have HPA := Lib.hid hpa
          cases yu with
          | true =>
            have HNX : Hid ((l.take (j + 1)).countP (fun x => !x.used) = k) := hnx
            have HP2 : Hid (∀ i, i < j + 1 → pairOk l i = true) := fun i hi => by
              rcases Nat.lt_or_ge i j with h | h
              · exact HPA.out i h
              · obtain rfl : i = j := by omega
                unfold pairOk; rw [HUJ.out]; simp
            clear hc hy hnx huj hpa hk
            by_cases hj0 : 0 < j
            · have g1 : decide (0 < j) = true := decide_eq_true hj0
              have g2 : decide ((0 : Int) < (j : Int)) = true := decide_eq_true (by omega)
              have HJ0 := Lib.hid hj0
              clear hj0
              go_wp2
              go_roundw
              case rel => exact ⟨j + 1, k, by go_num, rfl, by omega, HNX.out, HP2.out, trivial⟩
              case measure => simp only [intOf]; omega
            · have g1 : decide (0 < j) = false := decide_eq_false hj0
              have g2 : decide ((0 : Int) < (j : Int)) = false := decide_eq_false (by omega)
              have HJ0 := Lib.hid hj0
              clear hj0
              go_wp2
              go_roundw
              case rel => exact ⟨j + 1, k, by go_num, rfl, by omega, HNX.out, HP2.out, trivial⟩
              case measure => simp only [intOf]; omega
          | false =>
            have HNX : Hid ((l.take (j + 1)).countP (fun x => !x.used) = k + 1) := hnx
            by_cases hj0 : 0 < j
            · have g1 : decide (0 < j) = true := decide_eq_true hj0
              have g2 : decide ((0 : Int) < (j : Int)) = true := decide_eq_true (by omega)
              obtain ⟨jj, hjj⟩ : ∃ jj, j - 1 = jj := ⟨_, rfl⟩
              have hk1 : (j : Int) - 1 = (jj : Int) := by omega
              have hjl : jj < l.length := by omega
              obtain ⟨z, hz⟩ : ∃ z, l[jj]? = some z := ⟨l[jj], List.getElem?_eq_getElem hjl⟩
              obtain ⟨_, _, q2⟩ := hc jj z hz
              have huz : usedAt l (j - 1) = z.used := by unfold usedAt; rw [hjj, hz]
              obtain ⟨zo, zs, zu⟩ := z
              dsimp only at q2 huz
              have HUZ := Lib.hid huz
              have HJ0 := Lib.hid hj0
              cases zu with
              | true =>
                have HP2 : Hid (∀ i, i < j + 1 → pairOk l i = true) := fun i hi => by
                  rcases Nat.lt_or_ge i j with h | h
                  · exact HPA.out i h
                  · obtain rfl : i = j := by omega
                    unfold pairOk; rw [HUZ.out]; simp
                clear hc hy hnx huj hpa hk hj0 hjj huz hz
                go_wp2
                go_roundw
                case rel => exact ⟨j + 1, k + 1, by go_num, by go_num, by omega, HNX.out, HP2.out, trivial⟩
                case measure => simp only [intOf]; omega
              | false =>
                have hbad : pairOk l j = false := by
                  unfold pairOk; rw [HUJ.out, HUZ.out]; simp; have := HJ0.out; omega
                obtain rfl : false = x := by
                  rw [← HX.out]
                  have : noAdj l = false := by
                    unfold noAdj
                    rw [List.all_eq_false]
                    exact ⟨j, List.mem_range.2 hlt, by rw [hbad]; simp⟩
                  rw [this]; rfl
                clear hc hy hnx huj hpa hk hj0 hjj huz hz hbad HX
                go_wp2
                go_ret
                exact ⟨rfl, by rw [HB0.out]; exact HB1.out⟩
            · have g1 : decide (0 < j) = false := decide_eq_false hj0
              have g2 : decide ((0 : Int) < (j : Int)) = false := decide_eq_false (by omega)
              have HJ0 := Lib.hid hj0
              have HP2 : Hid (∀ i, i < j + 1 → pairOk l i = true) := fun i hi => by
                rcases Nat.lt_or_ge i j with h | h
                · exact HPA.out i h
                · obtain rfl : i = 0 := by have := HJ0.out; omega
                  rfl
              clear hc hy hnx huj hpa hk hj0
              go_wp2
              go_roundw
              case rel => exact ⟨j + 1, k + 1, by go_num, by go_num, by omega, HNX.out, HP2.out, trivial⟩
              case measure => simp only [intOf]; omega
        · have hno : noAdj l = true := by
            unfold noAdj
            rw [List.all_eq_true]
            exact fun i hi => hpa i (by have := List.mem_range.1 hi; omega)
          have hkf : cntFree l = k := by rw [← hk, List.take_of_length_le (by omega)]; rfl
          have hx3 : chkC bs l 22 0 (k : Int) = x := by rw [← HX.out, hno, hkf, Bool.true_and]
          have hkl : k ≤ l.length := by rw [← hkf]; exact List.countP_le_length
          have HX3 := Lib.hid hx3
          clear hno hkf hx3 hpa hk HX
          go_wp2
          go_loopw [5, 7] (fun f t wr => ∃ (c q : Nat) (fr : Int), t = .int .i64 (c : Int) ∧ f = .int .i64 fr ∧ c + q = 22 ∧ chkC bs l q c fr = x ∧ -1024 * (c : Int) ≤ fr ∧ fr ≤ 1000000 ∧ Below w1.heap.size w1 wr) (fun _ t _ => 22 - (intOf t).toNat)
          case atStart => exact ⟨0, 22, k, rfl, rfl, rfl, HX3.out, by omega, by omega, Below.refl _ _⟩
          case round =>
            obtain ⟨c, q, fr, rfl, rfl, hcq, hxc, hf1, hf2, hb⟩ := hrel
            have hBw : B0 ≤ wr.heap.size := Nat.le_trans hB1 hb.size
            by_cases hc22 : c < 22
            · obtain ⟨q, rfl⟩ : ∃ q', q = q' + 1 := ⟨q - 1, by omega⟩
              have hb0 : Below B0 w wr := HB1.out.trans (hb.mono hB1)
              have hrw : Rd wr wr.heap.size A bs.length bs := (HR.out.keep (fun q hq => hb0.cell (p := q) (by have := HB0.out; omega))).more (by have := HB0.out; omega)
              cases ha : allB bs c with
              | none =>
                obtain rfl : false = x := by rw [← hxc]; unfold chkC; rw [ha]
                have hA := rall_any wr A ca bs hrw hlc hl c hc22 _ ha
                have HA := Lib.hid hA
                have HB := Lib.hid hb0
                clear hA hb hb0 hxc hrw HX3 ha
                go_wp2_with fail
                with_reducible refine HA.out.mono ?_
                rintro e w2 ⟨A', c', rfl, _, hb2⟩
                have HB2 := Lib.hid (HB.out.trans (hb2.mono hBw))
                clear hb2
                dsimp only [Option.isSome, Option.getD]
                go_wp2
                go_ret
                exact ⟨rfl, by rw [HB0.out]; exact HB2.out⟩
              | some al =>
                have hA := rall_any wr A ca bs hrw hlc hl c hc22 _ ha
                dsimp only [IntsTold, Option.isSome, Option.getD] at hA
                have hxc' : (al.all (okO l al) && chkC bs l q (c + 1) (fr - al.length)) = x := by
                  rw [← hxc]
                  conv => rhs; unfold chkC
                  rw [ha] <;> rfl
                have hal := allB_len ha
                have HA := Lib.hid hA
                have HB := Lib.hid hb
                have HXC := Lib.hid hxc'
                clear hA hb hb0 hxc hxc' hrw HX3 ha
                go_wp2_with fail
                with_reducible refine HA.out.mono ?_
                rintro e w2 ⟨A8, c8, rfl, ho2, hb2⟩
                have HB2 := Lib.hid (HB.out.trans (hb2.mono HB.out.size))
                have hB2 : w1.heap.size ≤ w2.heap.size := Nat.le_trans HB.out.size hb2.size
                have HI := Lib.hid (own_ints ho2 rfl)
                have HK2 := Lib.hid ((HBK.out.below HB2.out).more hB2)
                clear hb2 ho2 HA HB
                go_wp2
                go_loopw [10] (fun i wr => ∃ j : Nat, j ≤ al.length ∧ i = .int .i64 (j : Int) ∧ (∀ o ∈ al.take j, okO l al o = true) ∧ Below w2.heap.size w2 wr) (fun i _ => al.length - (intOf i).toNat)
                case atStart => exact ⟨0, Nat.zero_le _, rfl, by simp, Below.refl _ _⟩
                case round =>
                  obtain ⟨j, hj, rfl, hok, hb3⟩ := hrel
                  by_cases hlt3 : j < al.length
                  · obtain ⟨o, ho⟩ : ∃ o, al[j]? = some o := ⟨al[j], List.getElem?_eq_getElem hlt3⟩
                    obtain ⟨b8, a8, rfl, hb8, hc8⟩ := HI.out (by simp [nats]; omega)
                    have p8 := (hb3.cell (p := ⟨b8, a8 + j, none⟩) hb8).trans (hc8 j o (by rw [nats, List.getElem?_map, ho]; rfl))
                    have HOK := Lib.hid hok
                    have HO := Lib.hid ho
                    have HB3 := Lib.hid hb3
                    have hs3 := hb3.size
                    obtain ⟨w4, rfl⟩ : ∃ w4, w4 = wr := ⟨_, rfl⟩
                    have P8 := Lib.hid p8
                    have hb8r : b8 < w4.heap.size := by omega
                    clear hc8 hok ho hb3 p8
                    go_wp2
                    go_loopw [11, 12] (fun f i wr' => ∃ (m : Nat) (fd : Bool), m ≤ l.length ∧ i = .int .i64 (m : Int) ∧ f = .bool fd ∧ (l.take m).any (fun x => x.off == o && !x.used) = fd ∧ Below w4.heap.size w4 wr') (fun _ i _ => l.length - (intOf i).toNat)
                    case atStart => exact ⟨0, false, Nat.zero_le _, rfl, rfl, rfl, Below.refl _ _⟩
                    case round =>
                      obtain ⟨m, fd, hm, rfl, rfl, hfd, hb4⟩ := hrel
                      by_cases hlt4 : m < l.length
                      · obtain ⟨y, hy⟩ : ∃ y, l[m]? = some y := ⟨l[m], List.getElem?_eq_getElem hlt4⟩
                        obtain ⟨b3, a3, rfl, hb3', hc3⟩ := HK2.out (by omega)
                        obtain ⟨p0, _, p2⟩ := hc3 m y hy
                        have hb3r : b3 < w4.heap.size := Nat.lt_of_lt_of_le hb3' hs3
                        have q0 := (hb4.cell (p := ⟨b3, _, none⟩) hb3r).trans ((HB3.out.cell (p := ⟨b3, _, none⟩) hb3').trans p0)
                        have q2 := (hb4.cell (p := ⟨b3, _, none⟩) hb3r).trans ((HB3.out.cell (p := ⟨b3, _, none⟩) hb3').trans p2)
                        have q8 := (hb4.cell (p := ⟨b8, a8 + j, none⟩) hb8r).trans P8.out
                        have hnx := any_take (p := fun x : Bk => x.off == o && !x.used) hy
                        rw [hfd] at hnx
                        obtain ⟨yo, ys, yu⟩ := y
                        dsimp only at q0 q2 hnx
                        have HNX := Lib.hid hnx
                        have HB4 := Lib.hid hb4
                        clear p0 p2 hc3 hy hnx hfd hb4
                        cases fd with
                        | true =>
                          have HN : Hid ((l.take (m + 1)).any (fun x => x.off == o && !x.used) = true) := HNX.out
                          go_wp2_with fail
                          go_quiet (fail)
                          have HBQ : Hid (Below w4.heap.size w4 (wr.drewN nq)) := ⟨HB4.out.os, HB4.out.tape, HB4.out.output, HB4.out.size, HB4.out.block⟩
                          clear q0 q2 q8
                          go_wp2
                          go_roundw
                          case rel => exact ⟨m + 1, _, by omega, by go_num, rfl, HN.out, HBQ.out⟩
                          case measure => simp only [intOf]; omega
                        | false =>
                          by_cases he : yo = o
                          · have e1 : ((yo : Int) == (o : Int)) = true := by rw [he]; simp
                            have HN : Hid ((l.take (m + 1)).any (fun x => x.off == o && !x.used) = !yu) := HNX.out.trans (by rw [he]; simp)
                            clear he
                            cases yu with
                            | true =>
                              go_wp2_with fail
                              go_quiet (fail)
                              have HBQ : Hid (Below w4.heap.size w4 (wr.drewN nq)) := ⟨HB4.out.os, HB4.out.tape, HB4.out.output, HB4.out.size, HB4.out.block⟩
                              clear q0 q2 q8
                              go_wp2
                              go_roundw
                              case rel => exact ⟨m + 1, _, by omega, by go_num, rfl, HN.out, HBQ.out⟩
                              case measure => simp only [intOf]; omega
                            | false =>
                              go_wp2_with fail
                              go_quiet (fail)
                              have HBQ : Hid (Below w4.heap.size w4 (wr.drewN nq)) := ⟨HB4.out.os, HB4.out.tape, HB4.out.output, HB4.out.size, HB4.out.block⟩
                              clear q0 q2 q8
                              go_wp2
                              go_roundw
                              case rel => exact ⟨m + 1, _, by omega, by go_num, rfl, HN.out, HBQ.out⟩
                              case measure => simp only [intOf]; omega
                          · have e1 : ((yo : Int) == (o : Int)) = false := by rw [beq_eq_false_iff_ne]; omega
                            have HN : Hid ((l.take (m + 1)).any (fun x => x.off == o && !x.used) = false) := HNX.out.trans (by rw [beq_eq_false_iff_ne.2 he]; rfl)
                            clear he
                            go_wp2_with fail
                            go_quiet (fail)
                            have HBQ : Hid (Below w4.heap.size w4 (wr.drewN nq)) := ⟨HB4.out.os, HB4.out.tape, HB4.out.output, HB4.out.size, HB4.out.block⟩
                            clear q0 q2 q8
                            go_wp2
                            go_roundw
                            case rel => exact ⟨m + 1, _, by omega, by go_num, rfl, HN.out, HBQ.out⟩
                            case measure => simp only [intOf]; omega
                      · have hfd2 : foundB l o = fd := by rw [← hfd, List.take_of_length_le (by omega)]; rfl
                        have hmem : o ∈ al := List.mem_of_getElem? HO.out
                        have q8 := (hb4.cell (p := ⟨b8, a8 + j, none⟩) hb8r).trans P8.out
                        have hb24 : Below w2.heap.size w2 wr := HB3.out.trans (hb4.mono hs3)
                        have hi4 := HI.out.below hb24
                        have HB24 := Lib.hid hb24
                        obtain ⟨kc, hkc⟩ : ∃ kc, al.count o = kc := ⟨_, rfl⟩
                        have HIN := Lib.hid (rin_any wr (some ⟨b8, a8, none⟩) c8 w2.heap.size al hi4 (by omega) o kc hkc)
                        have hokk : okO l al o = (fd && kc == 1) := by unfold okO; rw [hfd2, hkc]
                        have hbad : okO l al o = false → x = false := fun h => by
                          rw [← HXC.out]
                          have : al.all (okO l al) = false := by
                            rw [List.all_eq_false]
                            exact ⟨o, hmem, by rw [h]; simp⟩
                          rw [this]; rfl
                        have hkl : kc ≤ al.length := by rw [← hkc]; exact List.count_le_length
                        clear hfd hfd2 hmem hi4 hb4 hb24 hkc
                        cases fd with
                        | false =>
                          obtain rfl : x = false := hbad (by rw [hokk]; rfl)
                          clear hbad hokk HXC HIN
                          go_wp2
                          go_ret
                          exact ⟨rfl, by rw [HB0.out]; exact HB1.out.trans ((HB2.out.trans (HB24.out.mono hB2)).mono hB1)⟩
                        | true =>
                          by_cases hk1 : kc = 1
                          · have e1 : ((kc : Int) != 1) = false := by rw [hk1]; rfl
                            have HOK2 : Hid (∀ q ∈ al.take (j + 1), okO l al q = true) := fun q hq => by
                              rw [List.take_add_one, HO.out] at hq
                              rcases List.mem_append.1 hq with hq | hq
                              · exact HOK.out q hq
                              · simp at hq
                                rw [hq, hokk, hk1]; rfl
                            clear hbad hokk hk1
                            go_wp2_with fail
                            with_reducible refine HIN.out.mono ?_
                            rintro e w5 ⟨rfl, rfl⟩
                            go_wp2
                            go_roundw
                            case rel => exact ⟨j + 1, by omega, by go_num, HOK2.out, HB24.out⟩
                            case measure => simp only [intOf]; omega
                          · have e1 : ((kc : Int) != 1) = true := by rw [bne_iff_ne]; omega
                            obtain rfl : x = false := hbad (by rw [hokk, beq_eq_false_iff_ne.2 hk1]; rfl)
                            clear hbad hokk hk1 HXC
                            go_wp2_with fail
                            with_reducible refine HIN.out.mono ?_
                            rintro e w5 ⟨rfl, rfl⟩
                            go_wp2
                            go_ret
                            exact ⟨rfl, by rw [HB0.out]; exact HB1.out.trans ((HB2.out.trans (HB24.out.mono hB2)).mono hB1)⟩
                  · have hj2 : j = al.length := by omega
                    have hall : al.all (okO l al) = true := by
                      rw [List.all_eq_true]
                      intro o ho
                      exact hok o (by rw [hj2, List.take_length]; exact ho)
                    have hx4 := HXC.out
                    rw [hall, Bool.true_and] at hx4
                    have HX4 := Lib.hid hx4
                    have HB5 := Lib.hid (HB2.out.trans (hb3.mono hB2))
                    clear hall hok hb3 HXC hx4
                    go_wp2
                    go_roundw
                    case rel => exact ⟨c + 1, q, fr - al.length, by go_num, by go_num, by omega, HX4.out, by omega, by omega, HB5.out⟩
                    case measure => simp only [intOf]; omega
            · obtain ⟨rfl, rfl⟩ : c = 22 ∧ q = 0 := by omega
              have hb0 : Below B0 w wr := HB1.out.trans (hb.mono hB1)
              have HB := Lib.hid hb0
              have HXC : Hid ((fr == 0) = x) := hxc
              clear hb hb0 hxc HX3
              go_wp2
              go_ret
              exact ⟨rt_b HXC.out, by rw [HB0.out]; exact HB.out⟩
end
end Go.Proofs.YtbemaoncakcnjaaGreat

/- Layer 8's laws over the contracts of the program's two functions: the head, ClassTells. -/
namespace Go.Proofs.YtbemaoncakcnjaaGreat
open Go.RowKit

def ClassC : Prop := ∀ (w : World) (s : Int), (-9223372036854775808 ≤ s ∧ s ≤ 9223372036854775807) → Calls Tryz.prog 65 #[.int .i64 s] w fun e w' => e = .returned (.int .i64 (classI s)) ∧ Below w.heap.size w w'

end Go.Proofs.YtbemaoncakcnjaaGreat

/- The program's classes: isSize, bits.Len, Need, Class. -/
namespace Go.Proofs.YtbemaoncakcnjaaGreat
open Go.RowKit

section
variable (w : World)
set_option maxHeartbeats 400000 in
theorem cissize_any (n : Int) (hn : -9223372036854775808 ≤ n ∧ n ≤ 9223372036854775807) (b : Bool) (hb : isSz n = b) :
    Calls Tryz.prog 103 #[.int .i64 n] w fun e w' => e = .returned (.bool b) ∧ w = w' := by
  by_cases h1 : 32 ≤ n
  · by_cases h2 : n ≤ 16384
    · have e : (n % 16 == 0) = b := by rw [← hb]; simp [isSz, h1, h2]
      have HE := Lib.hid e
      clear hb e
      go_enter Tryz.func103, Tryz.ntmps103
      go_wp2
      go_ret
      exact ⟨rt_b HE.out, rfl⟩
    · obtain rfl : false = b := by rw [← hb]; simp [isSz, h2]
      clear hb
      go_enter Tryz.func103, Tryz.ntmps103
      go_wp2
      go_ret
      exact ⟨rfl, rfl⟩
  · obtain rfl : false = b := by rw [← hb]; simp [isSz, h1]
    clear hb
    go_enter Tryz.func103, Tryz.ntmps103
    go_wp2
    go_ret
    exact ⟨rfl, rfl⟩

theorem len8_le : ∀ q : Fin 256, 0 ≤ Lib.len8 (q.1 : Int) ∧ Lib.len8 (q.1 : Int) ≤ 8 := by decide +kernel
set_option maxHeartbeats 4000000 in
set_option maxRecDepth 100000 in
theorem blen64_int (x : Int) (h0 : 0 ≤ x) (h1 : x ≤ 255) : Calls Tryz.prog 123 #[.int .u64 x] w fun e w' => e = .returned (.int .i64 (wrap64 (wrap64 (Lib.len8 x)))) ∧ w = w' := by
  go_enter Tryz.func123, Tryz.ntmps123
  go_wp2
  go_ret
  exact ⟨rfl, rfl⟩
theorem blen64_any (q : Nat) (hq : q ≤ 255) : Calls Tryz.prog 123 #[.int .u64 (q : Int)] w fun e w' => e = .returned (.int .i64 (Lib.len8 (q : Int))) ∧ w = w' := by
  have hl := len8_le ⟨q, by omega⟩
  have h := blen64_int w (q : Int) (by omega) (by omega)
  have e : wrap64 (wrap64 (Lib.len8 (q : Int))) = Lib.len8 (q : Int) := by
    simp only at hl
    unfold wrap64
    omega
  rw [e] at h
  exact h
set_option maxHeartbeats 400000 in
theorem blen_any (q : Nat) (hq : q ≤ 255) : Calls Tryz.prog 104 #[.int .u64 (q : Int)] w fun e w' => e = .returned (.int .i64 (Lib.len8 (q : Int))) ∧ w = w' := by
  have H := Lib.hid (blen64_any w q hq)
  go_enter Tryz.func104, Tryz.ntmps104
  go_wp2_with fail
  refine H.out.mono ?_
  rintro e w1 ⟨rfl, rfl⟩
  go_wp2
  go_ret
  exact ⟨rfl, rfl⟩

theorem class_len : ∀ q : Fin 65, 1 ≤ q.1 → (q.1 < 2 ∧ Lib.len8 (q.1 : Int) = 1) ∨ (2 ≤ q.1 ∧ q.1 < 4 ∧ Lib.len8 (q.1 : Int) = 2) ∨ (4 ≤ q.1 ∧ q.1 < 8 ∧ Lib.len8 (q.1 : Int) = 3) ∨ (8 ≤ q.1 ∧ q.1 < 16 ∧ Lib.len8 (q.1 : Int) = 4) ∨ (16 ≤ q.1 ∧ q.1 < 32 ∧ Lib.len8 (q.1 : Int) = 5) ∨ (32 ≤ q.1 ∧ q.1 < 64 ∧ Lib.len8 (q.1 : Int) = 6) ∨ (q.1 = 64 ∧ Lib.len8 (q.1 : Int) = 7) := by decide +kernel
end

theorem classC : ClassC := by
  intro w s hs
  cases hb : isSz s
  · rw [show classI s = -1 by simp [classI, hb]]
    have HI := Lib.hid (cissize_any w s hs false hb)
    clear hb
    go_enter Tryz.func65, Tryz.ntmps65
    go_wp2_with fail
    with_reducible refine HI.out.mono ?_
    rintro e w1 ⟨rfl, rfl⟩
    go_wp2
    go_ret
    exact ⟨rfl, Below.refl _ _⟩
  · have h := (isSz_iff s).1 hb
    have HI := Lib.hid (cissize_any w s hs true hb)
    by_cases h0 : s ≤ 256
    · have e : (s - 32) / 16 = classI s := by
        unfold classI
        rw [if_neg (by simp [hb]), if_pos h0]
        omega
      obtain ⟨c, hc⟩ : ∃ c, classI s = c := ⟨_, rfl⟩
      rw [hc] at e ⊢
      have HC := Lib.hid e
      clear e hc hb
      go_enter Tryz.func65, Tryz.ntmps65
      go_wp2_with fail
      with_reducible refine HI.out.mono ?_
      rintro e w1 ⟨rfl, rfl⟩
      go_wp2
      go_ret
      exact ⟨rt_i HC.out, Below.refl _ _⟩
    · obtain ⟨q, hq⟩ : ∃ q : Nat, s / 256 = (q : Int) := ⟨(s / 256).toNat, by omega⟩
      have hq1 : 1 ≤ q ∧ q ≤ 64 := by omega
      have cl := class_len ⟨q, by omega⟩ hq1.1
      simp only at cl
      have e : 14 + Lib.len8 (q : Int) = classI s := by
        unfold classI
        rw [if_neg (by simp [hb]), if_neg h0]
        rcases cl with ⟨_, cl⟩ | ⟨_, _, cl⟩ | ⟨_, _, cl⟩ | ⟨_, _, cl⟩ | ⟨_, _, cl⟩ | ⟨_, _, cl⟩ | ⟨_, cl⟩ <;> rw [cl] <;> (repeat' split) <;> omega
      obtain ⟨c, hc⟩ : ∃ c, classI s = c := ⟨_, rfl⟩
      rw [hc] at e ⊢
      have hl := len8_le ⟨q, by omega⟩
      simp only at hl
      have HC := Lib.hid e
      have HL := Lib.hid (fun W => blen_any W q (by omega))
      clear e hc hb cl
      obtain ⟨l, hl8⟩ : ∃ l, Lib.len8 (q : Int) = l := ⟨_, rfl⟩
      rw [hl8] at HC HL hl
      clear hl8
      go_enter Tryz.func65, Tryz.ntmps65
      go_wp2_with fail
      with_reducible refine HI.out.mono ?_
      rintro e w1 ⟨rfl, rfl⟩
      go_wp2_with fail
      refine (HL.out _).mono ?_
      rintro e w1 ⟨rfl, rfl⟩
      go_wp2
      go_ret
      exact ⟨rt_i HC.out, Below.refl _ _⟩
end Go.Proofs.YtbemaoncakcnjaaGreat

/- What the program's blocks (layer 7) are to tell: the words in which the laws of the layers above ask for it. -/
namespace Go.Proofs.YtbemaoncakcnjaaGreat
open Go.RowKit

/-- No error, or one of api's. -/
def errV (ok : Bool) (k : Int) : Value := match ok with
  | true => .nilIface
  | false => .iface 63 (.int .i64 k)
/-- A block, or an error. -/
def BlkTold (x : Option Bk) (w : World) (e : Ending) (w' : World) : Prop := e = .returned (.tuple #[bkV x, errV x.isSome 3]) ∧ Below w.heap.size w w'
/-- Blocks, or an error. -/
def BlksTold (x : Option (List Bk)) (w : World) (e : Ending) (w' : World) : Prop :=
  ∃ A' c', e = .returned (.tuple #[.slice A' (x.getD []).length c', errV x.isSome 3]) ∧ w'.ownsRow w.heap.size 51 3 (.slice A' (x.getD []).length c') (x.getD []).length (flatK (x.getD [])) ∧ Below w.heap.size w w'
/-- The arena has other bytes, or there is an error, and all is as it was. -/
def Done (k : Int) (t : TypeId) (g base cap : Nat) (A : Option Addr) (y : Option (List UInt8)) (w : World) (e : Ending) (w' : World) : Prop :=
  match y with
  | none => e = .returned (errV false k) ∧ Below w.heap.size w w'
  | some out => e = .returned (errV true k) ∧ Became t g base cap A out w w'

def GetC : Prop := ∀ (w : World) (g base cap c : Nat) (A : Option Addr) (bs : List UInt8) (o : Int) (x : Option Bk), Ar w 92 g base cap A c bs → base ≤ 4611686018427387904 → bs.length ≤ 16384 → (-9223372036854775808 ≤ o ∧ o ≤ 9223372036854775807) → getB bs o = x →
  Calls Tryz.prog 57 #[.pointer (some ⟨g, 0, none⟩), .int .i64 o] w fun e w' => BlkTold x w e w'
def AheadC : Prop := ∀ (w : World) (g base cap c : Nat) (A : Option Addr) (bs : List UInt8) (o : Int) (x : Option Bk), Ar w 92 g base cap A c bs → base ≤ 4611686018427387904 → bs.length ≤ 16384 → (-9223372036854775808 ≤ o ∧ o ≤ 9223372036854775807) → aheadB bs o = x →
  Calls Tryz.prog 115 #[.pointer (some ⟨g, 0, none⟩), .int .i64 o] w fun e w' => BlkTold x w e w'
def SetC : Prop := ∀ (w : World) (g base cap c : Nat) (A : Option Addr) (bs : List UInt8) (o s : Int) (u : Bool) (y : Option (List UInt8)), Ar w 92 g base cap A c bs → base ≤ 4611686018427387904 → bs.length ≤ 16384 → (-9223372036854775808 ≤ o ∧ o ≤ 9223372036854775807) → (-9223372036854775808 ≤ s ∧ s ≤ 9223372036854775807) → setB bs o s u = y →
  Calls Tryz.prog 99 #[.pointer (some ⟨g, 0, none⟩), .agg #[.int .i64 o, .int .i64 s, .bool u]] w fun e w' => Done 1 92 g base cap A y w e w'
def WalkC : Prop := ∀ (w : World) (g base cap c : Nat) (A : Option Addr) (bs : List UInt8) (x : Option (List Bk)), Ar w 92 g base cap A c bs → base ≤ 4611686018427387904 → bs.length ≤ 16384 → walkB bs = x →
  Calls Tryz.prog 24 #[.pointer (some ⟨g, 0, none⟩)] w fun e w' => BlksTold x w e w'

theorem setB_of (bs : List UInt8) (x : Bk) (h1 : 184 ≤ x.off) (h2 : x.off % 16 = 8) (h3 : x.off + x.size ≤ bs.length) (h4 : isSz (x.size : Int) = true) : setB bs (x.off : Int) (x.size : Int) x.used = some (setT bs x) := by
  have h5 := (isSz_iff _).1 h4
  unfold setB setT tagN
  rw [if_pos ⟨h4, (could_iff _ _ _).2 (by omega)⟩, layN_eq, layN_eq]
  have e : ((x.off : Int) + (x.size : Int) - 8).toNat = x.off + x.size - 8 := by omega
  rw [e]
  simp
theorem BkRd.of_own {w : World} {base : Nat} {t : TypeId} {A : Option Addr} {c : Nat} {l : List Bk} (h : w.ownsRow base t 3 (.slice A l.length c) l.length (flatK l)) : BkRd w w.heap.size A l := own_bks h rfl

end Go.Proofs.YtbemaoncakcnjaaGreat

/- The contracts of what the program's blocks are made of: isPlace, address, and an arena's Word at an offset. -/
namespace Go.Proofs.YtbemaoncakcnjaaGreat
open Go.RowKit

/-- What an offset means. -/
def adr (base : Nat) (o : Int) : Nat := (((base : Int) + o) % 18446744073709551616).toNat
theorem adr_lt (base : Nat) (o : Int) : adr base o < 18446744073709551616 := by unfold adr; omega
theorem adr_pos (base : Nat) (hb : base ≤ 4611686018427387904) (o : Nat) (ho : (o : Int) ≤ 9223372036854775807) : adr base (o : Int) = base + o := by unfold adr; omega
theorem adr_neg (base : Nat) (hb : base ≤ 4611686018427387904) (o : Int) (ho : -9223372036854775900 ≤ o ∧ o ≤ 9223372036854775807) (n k : Nat) (hn : n + k ≤ 1000000) (hk : 1 ≤ k) (h : o < 0 ∨ (n : Int) < o + k) : base ≤ adr base o → n < adr base o - base + k := by unfold adr; omega
/-- The number at an offset, or an error. -/
def wdV (o : Option Nat) : Value := match o with
  | some v => .tuple #[.int .u64 (v : Int), .nilIface]
  | none => .tuple #[.int .u64 0, .iface 63 (.int .i64 2)]
/-- May a block stand at o, as far as o tells? -/
def plc (o : Int) : Bool := decide (184 ≤ o) && (o % 16 == 8)
theorem plc_iff (o : Int) : plc o = true ↔ 184 ≤ o ∧ o % 16 = 8 := by simp [plc]

section
variable {w : World} {g base cap c : Nat} {A : Option Addr} {bs : List UInt8}
theorem word_at (h : Ar w 92 g base cap A c bs) (hb : base ≤ 4611686018427387904) (hl : bs.length ≤ 16384) (o : Int) (ho : -9223372036854775900 ≤ o ∧ o ≤ 9223372036854775807) (x : Option Nat) (hx : word? bs o = x) :
    Calls Tryz.prog 89 #[.pointer (some ⟨g, 0, none⟩), .int .u64 (adr base o : Int)] w fun e w' => e = .returned (wdV x) ∧ w = w' := by
  subst hx
  by_cases h1 : 0 ≤ o ∧ o + 8 ≤ bs.length
  · obtain ⟨p, rfl⟩ : ∃ p : Nat, o = (p : Int) := ⟨o.toNat, by omega⟩
    have e : word? bs (p : Int) = some (wordN bs p) := by unfold word?; rw [if_pos (by omega)]; rfl
    rw [e, adr_pos base hb p (by omega)]
    exact word_ok h (by omega) (base + p) p (by omega) (by omega) (by omega) (by omega)
  · have e : word? bs o = none := by unfold word?; rw [if_neg h1]
    rw [e]
    exact word_no h (by omega) (adr base o) (adr_lt _ _) (adr_neg base hb o ho bs.length 8 (by omega) (by omega) (by omega))

set_option maxHeartbeats 400000 in
theorem address_any (h : Ar w 92 g base cap A c bs) (o : Int) :
    Calls Tryz.prog 92 #[.pointer (some ⟨g, 0, none⟩), .int .i64 o] w fun e w' => e = .returned (.int .u64 (adr base o : Int)) ∧ w = w' := by
  have HB := Lib.hid (base_any h)
  go_enter Tryz.func92, Tryz.ntmps92
  go_wp2_with fail
  refine HB.out.mono ?_
  rintro e w1 ⟨rfl, rfl⟩
  go_wp2
  go_ret
  exact ⟨rt_i (by simp only [IntKind.wrap_u64]; unfold adr; omega), rfl⟩

set_option maxHeartbeats 400000 in
theorem isplace_any (w : World) (o : Int) (ho : -9223372036854775808 ≤ o ∧ o ≤ 9223372036854775807) (b : Bool) (hb : plc o = b) :
    Calls Tryz.prog 91 #[.int .i64 o] w fun e w' => e = .returned (.bool b) ∧ w = w' := by
  by_cases h1 : 184 ≤ o
  · have e : ((o - 184) % 16 == 0) = b := by
      rw [← hb]
      unfold plc
      rw [decide_eq_true h1, Bool.true_and, Bool.eq_iff_iff, beq_iff_eq, beq_iff_eq]
      omega
    have HE := Lib.hid e
    clear hb e
    go_enter Tryz.func91, Tryz.ntmps91
    go_wp2
    go_ret
    exact ⟨rt_b HE.out, rfl⟩
  · obtain rfl : false = b := by rw [← hb]; simp [plc, h1]
    clear hb
    go_enter Tryz.func91, Tryz.ntmps91
    go_wp2
    go_ret
    exact ⟨rfl, rfl⟩
end
end Go.Proofs.YtbemaoncakcnjaaGreat

/- The contract of the program's Get: the block at an offset, all ways. -/
namespace Go.Proofs.YtbemaoncakcnjaaGreat
open Go.RowKit

section
variable {w : World} {g base cap c : Nat} {A : Option Addr} {bs : List UInt8}
set_option maxHeartbeats 1000000 in
theorem get_1 (h : Ar w 92 g base cap A c bs) (o : Int) (ho : -9223372036854775808 ≤ o ∧ o ≤ 9223372036854775807) (hc : plc o = false) :
    Calls Tryz.prog 57 #[.pointer (some ⟨g, 0, none⟩), .int .i64 o] w fun e w' => e = .returned (.tuple #[bkV none, errV false 3]) ∧ Below w.heap.size w w' := by
  obtain ⟨w1, hw1⟩ : ∃ w1, w.alloc (.cells #[.int .i64 0, .int .i64 0, .bool false] 51) = w1 := ⟨_, rfl⟩
  have hb1 : Below w.heap.size w w1 := by rw [← hw1]; exact (Below.refl _ _).alloc (Nat.le_refl _) _
  have hn1 : w1.heap[w.heap.size]? = some (.cells #[.int .i64 0, .int .i64 0, .bool false] 51 (0, 0)) := by rw [← hw1]; exact heap_alloc_new w _
  have h1 := h.below hb1
  have HC := Lib.hid (isplace_any w1 o ho false hc)
  have HW1 := Lib.hid hw1
  have HB1 := Lib.hid hb1
  have HN1 := Lib.hid hn1
  clear hc hw1 hb1 hn1 h1 h
  go_enter Tryz.func57, Tryz.ntmps57
  go_wp2_with fail
  rw [HW1.out]
  with_reducible refine HC.out.mono ?_
  rintro e w2 ⟨rfl, rfl⟩
  obtain ⟨⟨c0, c1, c2⟩, f0, f1, f2⟩ := blk_cells HN1.out
  go_wp2
  (try simp only [Exit.inBlock, Exit.then])
  refine blk_ret (x := errV false 3) Tryz.results57 ?_ ?_ ?_ (blk_set HN1.out _ _ _) ?_
  · rfl
  · rfl
  · rfl
  · exact ⟨rfl, ((HB1.out.setCell (Nat.le_refl _) _).setCell (Nat.le_refl _) _).setCell (Nat.le_refl _) _⟩

set_option maxHeartbeats 1000000 in
theorem get_2 (h : Ar w 92 g base cap A c bs) (hb : base ≤ 4611686018427387904) (hl : bs.length ≤ 16384) (o : Int) (ho : -9223372036854775808 ≤ o ∧ o ≤ 9223372036854775807) (hc : plc o = true) (hv : word? bs o = none) :
    Calls Tryz.prog 57 #[.pointer (some ⟨g, 0, none⟩), .int .i64 o] w fun e w' => e = .returned (.tuple #[bkV none, errV false 3]) ∧ Below w.heap.size w w' := by
  obtain ⟨w1, hw1⟩ : ∃ w1, w.alloc (.cells #[.int .i64 0, .int .i64 0, .bool false] 51) = w1 := ⟨_, rfl⟩
  have hb1 : Below w.heap.size w w1 := by rw [← hw1]; exact (Below.refl _ _).alloc (Nat.le_refl _) _
  have hn1 : w1.heap[w.heap.size]? = some (.cells #[.int .i64 0, .int .i64 0, .bool false] 51 (0, 0)) := by rw [← hw1]; exact heap_alloc_new w _
  have h1 := h.below hb1
  have HC := Lib.hid (isplace_any w1 o ho true hc)
  have HA := Lib.hid (address_any h1 o)
  have hwd := word_at h1 hb hl o (by omega) _ hv
  dsimp only [wdV] at hwd
  have HW := Lib.hid hwd
  have HW1 := Lib.hid hw1
  have HB1 := Lib.hid hb1
  have HN1 := Lib.hid hn1
  clear hc hv hwd hw1 hb1 hn1 h1 h
  go_enter Tryz.func57, Tryz.ntmps57
  go_wp2_with fail
  rw [HW1.out]
  with_reducible refine HC.out.mono ?_
  rintro e w2 ⟨rfl, rfl⟩
  go_wp2_with fail
  with_reducible refine HA.out.mono ?_
  rintro e w2 ⟨rfl, rfl⟩
  go_wp2_with fail
  with_reducible refine HW.out.mono ?_
  rintro e w2 ⟨rfl, rfl⟩
  obtain ⟨⟨c0, c1, c2⟩, f0, f1, f2⟩ := blk_cells HN1.out
  go_wp2
  (try simp only [Exit.inBlock, Exit.then])
  refine blk_ret (x := errV false 3) Tryz.results57 ?_ ?_ ?_ (blk_set HN1.out _ _ _) ?_
  · rfl
  · rfl
  · rfl
  · exact ⟨rfl, ((HB1.out.setCell (Nat.le_refl _) _).setCell (Nat.le_refl _) _).setCell (Nat.le_refl _) _⟩

set_option maxHeartbeats 1000000 in
theorem get_3 (h : Ar w 92 g base cap A c bs) (hb : base ≤ 4611686018427387904) (hl : bs.length ≤ 16384) (o : Int) (ho : -9223372036854775808 ≤ o ∧ o ≤ 9223372036854775807) (hc : plc o = true) (v : Nat) (hvl : v < 18446744073709551616) (hv : word? bs o = some v) (hu : unpN v = none) :
    Calls Tryz.prog 57 #[.pointer (some ⟨g, 0, none⟩), .int .i64 o] w fun e w' => e = .returned (.tuple #[bkV none, errV false 3]) ∧ Below w.heap.size w w' := by
  obtain ⟨w1, hw1⟩ : ∃ w1, w.alloc (.cells #[.int .i64 0, .int .i64 0, .bool false] 51) = w1 := ⟨_, rfl⟩
  have hb1 : Below w.heap.size w w1 := by rw [← hw1]; exact (Below.refl _ _).alloc (Nat.le_refl _) _
  have hn1 : w1.heap[w.heap.size]? = some (.cells #[.int .i64 0, .int .i64 0, .bool false] 51 (0, 0)) := by rw [← hw1]; exact heap_alloc_new w _
  have h1 := h.below hb1
  have HC := Lib.hid (isplace_any w1 o ho true hc)
  have HA := Lib.hid (address_any h1 o)
  have hwd := word_at h1 hb hl o (by omega) _ hv
  dsimp only [wdV] at hwd
  have HW := Lib.hid hwd
  have hup := tunpack_any w1 v hvl
  rw [hu] at hup
  dsimp only [unpV] at hup
  have HU := Lib.hid hup
  have HW1 := Lib.hid hw1
  have HB1 := Lib.hid hb1
  have HN1 := Lib.hid hn1
  clear hc hv hwd hu hup hw1 hb1 hn1 h1 h
  go_enter Tryz.func57, Tryz.ntmps57
  go_wp2_with fail
  rw [HW1.out]
  with_reducible refine HC.out.mono ?_
  rintro e w2 ⟨rfl, rfl⟩
  go_wp2_with fail
  with_reducible refine HA.out.mono ?_
  rintro e w2 ⟨rfl, rfl⟩
  go_wp2_with fail
  with_reducible refine HW.out.mono ?_
  rintro e w2 ⟨rfl, rfl⟩
  go_wp2_with fail
  with_reducible refine HU.out.mono ?_
  rintro e w2 ⟨rfl, rfl⟩
  obtain ⟨⟨c0, c1, c2⟩, f0, f1, f2⟩ := blk_cells HN1.out
  go_wp2
  (try simp only [Exit.inBlock, Exit.then])
  refine blk_ret (x := errV false 3) Tryz.results57 ?_ ?_ ?_ (blk_set HN1.out _ _ _) ?_
  · rfl
  · rfl
  · rfl
  · exact ⟨rfl, ((HB1.out.setCell (Nat.le_refl _) _).setCell (Nat.le_refl _) _).setCell (Nat.le_refl _) _⟩

set_option maxHeartbeats 1000000 in
theorem get_4 (h : Ar w 92 g base cap A c bs) (hb : base ≤ 4611686018427387904) (hl : bs.length ≤ 16384) (o : Int) (ho : -9223372036854775808 ≤ o ∧ o ≤ 9223372036854775807) (hc : plc o = true) (v : Nat) (hvl : v < 18446744073709551616) (hv : word? bs o = some v) (s : Nat) (u : Bool) (hu : unpN v = some (s, u)) (hs : 32 ≤ s ∧ s ≤ 16384) (hob : 0 ≤ o ∧ o ≤ 16384) (hv2 : word? bs (o + (s : Int) - 8) = none) :
    Calls Tryz.prog 57 #[.pointer (some ⟨g, 0, none⟩), .int .i64 o] w fun e w' => e = .returned (.tuple #[bkV none, errV false 3]) ∧ Below w.heap.size w w' := by
  obtain ⟨w1, hw1⟩ : ∃ w1, w.alloc (.cells #[.int .i64 0, .int .i64 0, .bool false] 51) = w1 := ⟨_, rfl⟩
  have hb1 : Below w.heap.size w w1 := by rw [← hw1]; exact (Below.refl _ _).alloc (Nat.le_refl _) _
  have hn1 : w1.heap[w.heap.size]? = some (.cells #[.int .i64 0, .int .i64 0, .bool false] 51 (0, 0)) := by rw [← hw1]; exact heap_alloc_new w _
  have h1 := h.below hb1
  have HC := Lib.hid (isplace_any w1 o ho true hc)
  have HA := Lib.hid (address_any h1 o)
  have hwd := word_at h1 hb hl o (by omega) _ hv
  dsimp only [wdV] at hwd
  have HW := Lib.hid hwd
  have hup := tunpack_any w1 v hvl
  rw [hu] at hup
  dsimp only [unpV] at hup
  have HU := Lib.hid hup
  have HA2 := Lib.hid (address_any h1 (o + (s : Int) - 8))
  have hwd2 := word_at h1 hb hl (o + (s : Int) - 8) (by omega) _ hv2
  dsimp only [wdV] at hwd2
  have HW2 := Lib.hid hwd2
  have HW1 := Lib.hid hw1
  have HB1 := Lib.hid hb1
  have HN1 := Lib.hid hn1
  clear hc hv hwd hu hup hv2 hwd2 hw1 hb1 hn1 h1 h
  go_enter Tryz.func57, Tryz.ntmps57
  go_wp2_with fail
  rw [HW1.out]
  with_reducible refine HC.out.mono ?_
  rintro e w2 ⟨rfl, rfl⟩
  go_wp2_with fail
  with_reducible refine HA.out.mono ?_
  rintro e w2 ⟨rfl, rfl⟩
  go_wp2_with fail
  with_reducible refine HW.out.mono ?_
  rintro e w2 ⟨rfl, rfl⟩
  go_wp2_with fail
  with_reducible refine HU.out.mono ?_
  rintro e w2 ⟨rfl, rfl⟩
  go_wp2_with fail
  with_reducible refine HA2.out.mono ?_
  rintro e w2 ⟨rfl, rfl⟩
  go_wp2_with fail
  with_reducible refine HW2.out.mono ?_
  rintro e w2 ⟨rfl, rfl⟩
  obtain ⟨⟨c0, c1, c2⟩, f0, f1, f2⟩ := blk_cells HN1.out
  go_wp2
  (try simp only [Exit.inBlock, Exit.then])
  refine blk_ret (x := errV false 3) Tryz.results57 ?_ ?_ ?_ (blk_set HN1.out _ _ _) ?_
  · rfl
  · rfl
  · rfl
  · exact ⟨rfl, ((HB1.out.setCell (Nat.le_refl _) _).setCell (Nat.le_refl _) _).setCell (Nat.le_refl _) _⟩

set_option maxHeartbeats 1000000 in
theorem get_5 (h : Ar w 92 g base cap A c bs) (hb : base ≤ 4611686018427387904) (hl : bs.length ≤ 16384) (o : Int) (ho : -9223372036854775808 ≤ o ∧ o ≤ 9223372036854775807) (hc : plc o = true) (v : Nat) (hvl : v < 18446744073709551616) (hv : word? bs o = some v) (s : Nat) (u : Bool) (hu : unpN v = some (s, u)) (hs : 32 ≤ s ∧ s ≤ 16384) (hob : 0 ≤ o ∧ o ≤ 16384) (v2 : Nat) (hv2 : word? bs (o + (s : Int) - 8) = some v2) (hne : v2 ≠ v) :
    Calls Tryz.prog 57 #[.pointer (some ⟨g, 0, none⟩), .int .i64 o] w fun e w' => e = .returned (.tuple #[bkV none, errV false 3]) ∧ Below w.heap.size w w' := by
  obtain ⟨w1, hw1⟩ : ∃ w1, w.alloc (.cells #[.int .i64 0, .int .i64 0, .bool false] 51) = w1 := ⟨_, rfl⟩
  have hb1 : Below w.heap.size w w1 := by rw [← hw1]; exact (Below.refl _ _).alloc (Nat.le_refl _) _
  have hn1 : w1.heap[w.heap.size]? = some (.cells #[.int .i64 0, .int .i64 0, .bool false] 51 (0, 0)) := by rw [← hw1]; exact heap_alloc_new w _
  have h1 := h.below hb1
  have HC := Lib.hid (isplace_any w1 o ho true hc)
  have HA := Lib.hid (address_any h1 o)
  have hwd := word_at h1 hb hl o (by omega) _ hv
  dsimp only [wdV] at hwd
  have HW := Lib.hid hwd
  have hup := tunpack_any w1 v hvl
  rw [hu] at hup
  dsimp only [unpV] at hup
  have HU := Lib.hid hup
  have HA2 := Lib.hid (address_any h1 (o + (s : Int) - 8))
  have hwd2 := word_at h1 hb hl (o + (s : Int) - 8) (by omega) _ hv2
  dsimp only [wdV] at hwd2
  have HW2 := Lib.hid hwd2
  have hq : ((v2 : Int) != (v : Int)) = true := by rw [bne_iff_ne]; omega
  have HW1 := Lib.hid hw1
  have HB1 := Lib.hid hb1
  have HN1 := Lib.hid hn1
  clear hc hv hwd hu hup hv2 hwd2 hne hw1 hb1 hn1 h1 h
  go_enter Tryz.func57, Tryz.ntmps57
  go_wp2_with fail
  rw [HW1.out]
  with_reducible refine HC.out.mono ?_
  rintro e w2 ⟨rfl, rfl⟩
  go_wp2_with fail
  with_reducible refine HA.out.mono ?_
  rintro e w2 ⟨rfl, rfl⟩
  go_wp2_with fail
  with_reducible refine HW.out.mono ?_
  rintro e w2 ⟨rfl, rfl⟩
  go_wp2_with fail
  with_reducible refine HU.out.mono ?_
  rintro e w2 ⟨rfl, rfl⟩
  go_wp2_with fail
  with_reducible refine HA2.out.mono ?_
  rintro e w2 ⟨rfl, rfl⟩
  go_wp2_with fail
  with_reducible refine HW2.out.mono ?_
  rintro e w2 ⟨rfl, rfl⟩
  obtain ⟨⟨c0, c1, c2⟩, f0, f1, f2⟩ := blk_cells HN1.out
  go_wp2
  (try simp only [Exit.inBlock, Exit.then])
  refine blk_ret (x := errV false 3) Tryz.results57 ?_ ?_ ?_ (blk_set HN1.out _ _ _) ?_
  · rfl
  · rfl
  · rfl
  · exact ⟨rfl, ((HB1.out.setCell (Nat.le_refl _) _).setCell (Nat.le_refl _) _).setCell (Nat.le_refl _) _⟩

set_option maxHeartbeats 1000000 in
theorem get_6 (h : Ar w 92 g base cap A c bs) (hb : base ≤ 4611686018427387904) (hl : bs.length ≤ 16384) (o : Nat) (ho : -9223372036854775808 ≤ (o : Int) ∧ (o : Int) ≤ 9223372036854775807) (hc : plc (o : Int) = true) (v : Nat) (hvl : v < 18446744073709551616) (hv : word? bs (o : Int) = some v) (s : Nat) (u : Bool) (hu : unpN v = some (s, u)) (hs : 32 ≤ s ∧ s ≤ 16384) (hob : 0 ≤ (o : Int) ∧ (o : Int) ≤ 16384) (hv2 : word? bs ((o : Int) + (s : Int) - 8) = some v) :
    Calls Tryz.prog 57 #[.pointer (some ⟨g, 0, none⟩), .int .i64 (o : Int)] w fun e w' => e = .returned (.tuple #[bkV (some ⟨o, s, u⟩), errV true 3]) ∧ Below w.heap.size w w' := by
  obtain ⟨w1, hw1⟩ : ∃ w1, w.alloc (.cells #[.int .i64 0, .int .i64 0, .bool false] 51) = w1 := ⟨_, rfl⟩
  have hb1 : Below w.heap.size w w1 := by rw [← hw1]; exact (Below.refl _ _).alloc (Nat.le_refl _) _
  have hn1 : w1.heap[w.heap.size]? = some (.cells #[.int .i64 0, .int .i64 0, .bool false] 51 (0, 0)) := by rw [← hw1]; exact heap_alloc_new w _
  have h1 := h.below hb1
  have HC := Lib.hid (isplace_any w1 (o : Int) ho true hc)
  have HA := Lib.hid (address_any h1 (o : Int))
  have hwd := word_at h1 hb hl (o : Int) (by omega) _ hv
  dsimp only [wdV] at hwd
  have HW := Lib.hid hwd
  have hup := tunpack_any w1 v hvl
  rw [hu] at hup
  dsimp only [unpV] at hup
  have HU := Lib.hid hup
  have HA2 := Lib.hid (address_any h1 ((o : Int) + (s : Int) - 8))
  have hwd2 := word_at h1 hb hl ((o : Int) + (s : Int) - 8) (by omega) _ hv2
  dsimp only [wdV] at hwd2
  have HW2 := Lib.hid hwd2
  have HW1 := Lib.hid hw1
  have HB1 := Lib.hid hb1
  have HN1 := Lib.hid hn1
  clear hc hv hwd hu hup hv2 hwd2 hw1 hb1 hn1 h1 h
  go_enter Tryz.func57, Tryz.ntmps57
  go_wp2_with fail
  rw [HW1.out]
  with_reducible refine HC.out.mono ?_
  rintro e w2 ⟨rfl, rfl⟩
  go_wp2_with fail
  with_reducible refine HA.out.mono ?_
  rintro e w2 ⟨rfl, rfl⟩
  go_wp2_with fail
  with_reducible refine HW.out.mono ?_
  rintro e w2 ⟨rfl, rfl⟩
  go_wp2_with fail
  with_reducible refine HU.out.mono ?_
  rintro e w2 ⟨rfl, rfl⟩
  go_wp2_with fail
  with_reducible refine HA2.out.mono ?_
  rintro e w2 ⟨rfl, rfl⟩
  go_wp2_with fail
  with_reducible refine HW2.out.mono ?_
  rintro e w2 ⟨rfl, rfl⟩
  obtain ⟨⟨c0, c1, c2⟩, f0, f1, f2⟩ := blk_cells HN1.out
  go_wp2
  (try simp only [Exit.inBlock, Exit.then])
  refine blk_ret (x := errV true 3) Tryz.results57 ?_ ?_ ?_ (blk_set HN1.out _ _ _) ?_
  · rfl
  · rfl
  · rfl
  · exact ⟨rfl, ((HB1.out.setCell (Nat.le_refl _) _).setCell (Nat.le_refl _) _).setCell (Nat.le_refl _) _⟩

end
theorem getC : GetC := by
  intro w g base cap c A bs o x h hb hl ho hx
  subst hx
  unfold BlkTold
  cases hc : plc o with
  | false =>
    have e : getB bs o = none := by
      unfold getB
      rw [if_pos]
      rw [Bool.eq_false_iff]
      intro h2
      have := (could_iff _ _ _).1 h2
      rw [(plc_iff o).2 (by omega)] at hc
      cases hc
    rw [e]
    exact get_1 h o ho hc
  | true =>
    have hp := (plc_iff o).1 hc
    obtain ⟨p, rfl⟩ : ∃ p : Nat, o = (p : Int) := ⟨o.toNat, by omega⟩
    by_cases h8 : p + 8 ≤ bs.length
    · have hcd : could bs.length (p : Int) 8 = true := (could_iff _ _ _).2 (by omega)
      have hv : word? bs (p : Int) = some (wordN bs p) := by unfold word?; rw [if_pos (by omega)]; rfl
      cases hu : unpN (wordN bs p) with
      | none =>
        have e : getB bs (p : Int) = none := by unfold getB; rw [if_neg (by rw [hcd]; simp), Int.toNat_natCast, hu]
        rw [e]
        exact get_3 h hb hl (p : Int) ho hc _ (wordN_lt _ _) hv hu
      | some su =>
        obtain ⟨s, u⟩ := su
        have hss := (isSz_iff _).1 (unpN_some hu).1
        cases hc2 : could bs.length (p : Int) (s : Int) with
        | false =>
          have e : getB bs (p : Int) = none := by unfold getB; rw [if_neg (by rw [hcd]; simp), Int.toNat_natCast, hu]; dsimp only; rw [if_pos hc2]
          rw [e]
          refine get_4 h hb hl (p : Int) ho hc _ (wordN_lt _ _) hv s u hu (by omega) (by omega) ?_
          unfold word?
          rw [if_neg]
          intro h2
          rw [(could_iff _ _ _).2 (by omega)] at hc2
          cases hc2
        | true =>
          have hb2 := (could_iff _ _ _).1 hc2
          have hv2 : word? bs ((p : Int) + (s : Int) - 8) = some (wordN bs (p + s - 8)) := by
            unfold word?
            rw [if_pos (by omega), show ((p : Int) + (s : Int) - 8).toNat = p + s - 8 by omega]
          by_cases hw : wordN bs (p + s - 8) = wordN bs p
          · have e : getB bs (p : Int) = some ⟨p, s, u⟩ := by unfold getB; rw [if_neg (by rw [hcd]; simp), Int.toNat_natCast, hu]; dsimp only; rw [if_neg (by rw [hc2]; simp), if_pos hw]
            rw [e]
            rw [hw] at hv2
            exact get_6 h hb hl p ho hc _ (wordN_lt _ _) hv s u hu (by omega) (by omega) hv2
          · have e : getB bs (p : Int) = none := by unfold getB; rw [if_neg (by rw [hcd]; simp), Int.toNat_natCast, hu]; dsimp only; rw [if_neg (by rw [hc2]; simp), if_neg hw]
            rw [e]
            exact get_5 h hb hl (p : Int) ho hc _ (wordN_lt _ _) hv s u hu (by omega) (by omega) _ hv2 hw
    · have e : getB bs (p : Int) = none := by
        unfold getB
        rw [if_pos]
        rw [Bool.eq_false_iff]
        intro h2
        have := (could_iff _ _ _).1 h2
        omega
      rw [e]
      exact get_2 h hb hl (p : Int) ho hc (by unfold word?; rw [if_neg (by omega)])
end Go.Proofs.YtbemaoncakcnjaaGreat

/- The contract of the program's Ahead: the block that ends at an offset, all ways. -/
namespace Go.Proofs.YtbemaoncakcnjaaGreat
open Go.RowKit

/-- What Ahead tells, said by what it asks. -/
theorem aheadB_eq (bs : List UInt8) (o : Int) : aheadB bs o = (match word? bs (o - 8) with
  | none => none
  | some v => match unpN v with
    | none => none
    | some (s, _) => match getB bs (o - (s : Int)) with
      | none => none
      | some x => if x.size = s then some x else none) := by
  by_cases h0 : o < 8 ∨ (bs.length : Int) < o
  · have e : word? bs (o - 8) = none := by unfold word?; rw [if_neg (by omega)]
    rw [e]
    unfold aheadB
    rw [if_pos (by omega)]
  · obtain ⟨p, rfl⟩ : ∃ p : Nat, o = (p : Int) := ⟨o.toNat, by omega⟩
    have e : word? bs ((p : Int) - 8) = some (wordN bs (p - 8)) := by
      unfold word?
      rw [if_pos (by omega), show ((p : Int) - 8).toNat = p - 8 by omega]
    rw [e]
    dsimp only
    by_cases h1 : (p : Int) < 184
    · unfold aheadB
      rw [if_pos (by omega)]
      cases hu : unpN (wordN bs (p - 8)) with
      | none => rfl
      | some su =>
        obtain ⟨s, u⟩ := su
        dsimp only
        cases hx : getB bs ((p : Int) - (s : Int)) with
        | none => rfl
        | some x =>
          have := getB_some hx
          omega
    · unfold aheadB
      rw [if_neg (by omega), Int.toNat_natCast]
      cases hu : unpN (wordN bs (p - 8)) with
      | none => rfl
      | some su =>
        obtain ⟨s, u⟩ := su
        dsimp only
        cases hx : getB bs ((p : Int) - (s : Int)) with
        | none => rfl
        | some x =>
          dsimp only
          obtain ⟨q1, q2, q3, q4, q5, q6, q7⟩ := getB_some hx
          by_cases hs : x.size = s
          · have e2 : x.off + x.size - 8 = p - 8 := by omega
            rw [e2] at q7
            rw [← q7, hu] at q6
            injection q6 with q6
            injection q6 with q6 q8
            rw [if_pos ⟨hs, q8.symm⟩, if_pos hs]
          · rw [if_neg (fun h => hs h.1), if_neg hs]

section
variable {w : World} {g base cap c : Nat} {A : Option Addr} {bs : List UInt8}
set_option maxHeartbeats 1000000 in
theorem ahead_1 (h : Ar w 92 g base cap A c bs) (hb : base ≤ 4611686018427387904) (hl : bs.length ≤ 16384) (o : Int) (ho : -9223372036854775808 ≤ o ∧ o ≤ 9223372036854775807) (hv : word? bs (o - 8) = none) :
    Calls Tryz.prog 115 #[.pointer (some ⟨g, 0, none⟩), .int .i64 o] w fun e w' => e = .returned (.tuple #[bkV none, errV false 3]) ∧ Below w.heap.size w w' := by
  obtain ⟨w1, hw1⟩ : ∃ w1, w.alloc (.cells #[.int .i64 0, .int .i64 0, .bool false] 51) = w1 := ⟨_, rfl⟩
  have hb1 : Below w.heap.size w w1 := by rw [← hw1]; exact (Below.refl _ _).alloc (Nat.le_refl _) _
  have hn1 : w1.heap[w.heap.size]? = some (.cells #[.int .i64 0, .int .i64 0, .bool false] 51 (0, 0)) := by rw [← hw1]; exact heap_alloc_new w _
  have h1 := h.below hb1
  have HA := Lib.hid (address_any h1 o)
  have hs8 : IntKind.u64.wrap ((adr base o : Int) - 8) = (adr base (o - 8) : Int) := by rw [IntKind.wrap_u64]; unfold adr; omega
  have HS8 := Lib.hid hs8
  have hwd := word_at h1 hb hl (o - 8) (by omega) _ hv
  dsimp only [wdV] at hwd
  have HW := Lib.hid hwd
  have HW1 := Lib.hid hw1
  have HB1 := Lib.hid hb1
  have HN1 := Lib.hid hn1
  clear hv hwd hs8 hw1 hb1 hn1 h1 h
  go_enter Tryz.func115, Tryz.ntmps115
  go_wp2_with fail
  rw [HW1.out]
  with_reducible refine HA.out.mono ?_
  rintro e w2 ⟨rfl, rfl⟩
  go_wp2_with fail
  rw [HS8.out]
  with_reducible refine HW.out.mono ?_
  rintro e w2 ⟨rfl, rfl⟩
  have hlt := heap_lt' HN1.out
  obtain ⟨⟨c0, c1, c2⟩, f0, f1, f2⟩ := blk_cells HN1.out
  go_wp2
  (try simp only [Exit.inBlock, Exit.then])
  refine blk_ret (x := errV false 3) (g := w.heap.size) (o := 0) (s := 0) (b := false) Tryz.results115 ?_ ?_ ?_ ?_ ?_
  · rfl
  · rfl
  · rfl
  · exact blk_set HN1.out _ _ _
  · exact ⟨rfl, ((HB1.out.setCell (Nat.le_refl _) _).setCell (Nat.le_refl _) _).setCell (Nat.le_refl _) _⟩

set_option maxHeartbeats 1000000 in
theorem ahead_2 (h : Ar w 92 g base cap A c bs) (hb : base ≤ 4611686018427387904) (hl : bs.length ≤ 16384) (o : Int) (ho : -9223372036854775808 ≤ o ∧ o ≤ 9223372036854775807) (v : Nat) (hvl : v < 18446744073709551616) (hv : word? bs (o - 8) = some v) (hu : unpN v = none) :
    Calls Tryz.prog 115 #[.pointer (some ⟨g, 0, none⟩), .int .i64 o] w fun e w' => e = .returned (.tuple #[bkV none, errV false 3]) ∧ Below w.heap.size w w' := by
  obtain ⟨w1, hw1⟩ : ∃ w1, w.alloc (.cells #[.int .i64 0, .int .i64 0, .bool false] 51) = w1 := ⟨_, rfl⟩
  have hb1 : Below w.heap.size w w1 := by rw [← hw1]; exact (Below.refl _ _).alloc (Nat.le_refl _) _
  have hn1 : w1.heap[w.heap.size]? = some (.cells #[.int .i64 0, .int .i64 0, .bool false] 51 (0, 0)) := by rw [← hw1]; exact heap_alloc_new w _
  have h1 := h.below hb1
  have HA := Lib.hid (address_any h1 o)
  have hs8 : IntKind.u64.wrap ((adr base o : Int) - 8) = (adr base (o - 8) : Int) := by rw [IntKind.wrap_u64]; unfold adr; omega
  have HS8 := Lib.hid hs8
  have hwd := word_at h1 hb hl (o - 8) (by omega) _ hv
  dsimp only [wdV] at hwd
  have HW := Lib.hid hwd
  have hup := tunpack_any w1 v hvl
  rw [hu] at hup
  dsimp only [unpV] at hup
  have HU := Lib.hid hup
  have HW1 := Lib.hid hw1
  have HB1 := Lib.hid hb1
  have HN1 := Lib.hid hn1
  clear hv hwd hu hup hs8 hw1 hb1 hn1 h1 h
  go_enter Tryz.func115, Tryz.ntmps115
  go_wp2_with fail
  rw [HW1.out]
  with_reducible refine HA.out.mono ?_
  rintro e w2 ⟨rfl, rfl⟩
  go_wp2_with fail
  rw [HS8.out]
  with_reducible refine HW.out.mono ?_
  rintro e w2 ⟨rfl, rfl⟩
  go_wp2_with fail
  with_reducible refine HU.out.mono ?_
  rintro e w2 ⟨rfl, rfl⟩
  have hlt := heap_lt' HN1.out
  obtain ⟨⟨c0, c1, c2⟩, f0, f1, f2⟩ := blk_cells HN1.out
  go_wp2
  (try simp only [Exit.inBlock, Exit.then])
  refine blk_ret (x := errV false 3) (g := w.heap.size) (o := 0) (s := 0) (b := false) Tryz.results115 ?_ ?_ ?_ ?_ ?_
  · rfl
  · rfl
  · rfl
  · exact blk_set HN1.out _ _ _
  · exact ⟨rfl, ((HB1.out.setCell (Nat.le_refl _) _).setCell (Nat.le_refl _) _).setCell (Nat.le_refl _) _⟩

set_option maxHeartbeats 1000000 in
theorem ahead_3 (h : Ar w 92 g base cap A c bs) (hb : base ≤ 4611686018427387904) (hl : bs.length ≤ 16384) (o : Int) (ho : -9223372036854775808 ≤ o ∧ o ≤ 9223372036854775807) (v : Nat) (hvl : v < 18446744073709551616) (hv : word? bs (o - 8) = some v) (s : Nat) (u : Bool) (hu : unpN v = some (s, u)) (hs : 32 ≤ s ∧ s ≤ 16384) (hob : 0 ≤ o ∧ o ≤ 16384) (hx : getB bs (o - (s : Int)) = none) :
    Calls Tryz.prog 115 #[.pointer (some ⟨g, 0, none⟩), .int .i64 o] w fun e w' => e = .returned (.tuple #[bkV none, errV false 3]) ∧ Below w.heap.size w w' := by
  obtain ⟨w1, hw1⟩ : ∃ w1, w.alloc (.cells #[.int .i64 0, .int .i64 0, .bool false] 51) = w1 := ⟨_, rfl⟩
  have hb1 : Below w.heap.size w w1 := by rw [← hw1]; exact (Below.refl _ _).alloc (Nat.le_refl _) _
  have hn1 : w1.heap[w.heap.size]? = some (.cells #[.int .i64 0, .int .i64 0, .bool false] 51 (0, 0)) := by rw [← hw1]; exact heap_alloc_new w _
  have h1 := h.below hb1
  have HA := Lib.hid (address_any h1 o)
  have hs8 : IntKind.u64.wrap ((adr base o : Int) - 8) = (adr base (o - 8) : Int) := by rw [IntKind.wrap_u64]; unfold adr; omega
  have HS8 := Lib.hid hs8
  have hwd := word_at h1 hb hl (o - 8) (by omega) _ hv
  dsimp only [wdV] at hwd
  have HW := Lib.hid hwd
  have hup := tunpack_any w1 v hvl
  rw [hu] at hup
  dsimp only [unpV] at hup
  have HU := Lib.hid hup
  have hg := getC w1 g base cap c A bs (o - (s : Int)) _ h1 hb hl (by omega) hx
  dsimp only [BlkTold, bkV, Bk.val, Option.isSome, errV] at hg
  have HG := Lib.hid hg
  have HW1 := Lib.hid hw1
  have HB1 := Lib.hid hb1
  have HN1 := Lib.hid hn1
  clear hv hwd hu hup hx hg hs8 hw1 hb1 hn1 h1 h
  go_enter Tryz.func115, Tryz.ntmps115
  go_wp2_with fail
  rw [HW1.out]
  with_reducible refine HA.out.mono ?_
  rintro e w2 ⟨rfl, rfl⟩
  go_wp2_with fail
  rw [HS8.out]
  with_reducible refine HW.out.mono ?_
  rintro e w2 ⟨rfl, rfl⟩
  go_wp2_with fail
  with_reducible refine HU.out.mono ?_
  rintro e w2 ⟨rfl, rfl⟩
  go_wp2_with fail
  with_reducible refine HG.out.mono ?_
  rintro e w2 ⟨rfl, hb2⟩
  have hlt := Nat.lt_of_lt_of_le (heap_lt' HN1.out) hb2.size
  have hn2 := (hb2.block _ (heap_lt' HN1.out)).trans HN1.out
  have hb02 : Below w.heap.size w w2 := HB1.out.trans (hb2.mono HB1.out.size)
  obtain ⟨⟨c0, c1, c2⟩, f0, f1, f2⟩ := blk_cells hn2
  have HN2 := Lib.hid hn2
  have HB2 := Lib.hid hb02
  clear hn2 hb02 hb2
  go_wp2
  (try simp only [Exit.inBlock, Exit.then])
  refine blk_ret (x := errV false 3) (g := w.heap.size) (o := 0) (s := 0) (b := false) Tryz.results115 ?_ ?_ ?_ ?_ ?_
  · rfl
  · rfl
  · rfl
  · exact (((Below.refl _ _).alloc (Nat.le_refl _) _).block _ (by simp [World.setCell]; omega)).trans (blk_set HN2.out _ _ _)
  · exact ⟨rfl, (((HB2.out.setCell (Nat.le_refl _) _).setCell (Nat.le_refl _) _).setCell (Nat.le_refl _) _).alloc (by simp [World.setCell]; omega) _⟩

set_option maxHeartbeats 1000000 in
theorem ahead_4 (h : Ar w 92 g base cap A c bs) (hb : base ≤ 4611686018427387904) (hl : bs.length ≤ 16384) (o : Int) (ho : -9223372036854775808 ≤ o ∧ o ≤ 9223372036854775807) (v : Nat) (hvl : v < 18446744073709551616) (hv : word? bs (o - 8) = some v) (s : Nat) (u : Bool) (hu : unpN v = some (s, u)) (hs : 32 ≤ s ∧ s ≤ 16384) (hob : 0 ≤ o ∧ o ≤ 16384) (xo xs : Nat) (xu : Bool) (hx : getB bs (o - (s : Int)) = some ⟨xo, xs, xu⟩) (hne : xs ≠ s) :
    Calls Tryz.prog 115 #[.pointer (some ⟨g, 0, none⟩), .int .i64 o] w fun e w' => e = .returned (.tuple #[bkV none, errV false 3]) ∧ Below w.heap.size w w' := by
  obtain ⟨w1, hw1⟩ : ∃ w1, w.alloc (.cells #[.int .i64 0, .int .i64 0, .bool false] 51) = w1 := ⟨_, rfl⟩
  have hb1 : Below w.heap.size w w1 := by rw [← hw1]; exact (Below.refl _ _).alloc (Nat.le_refl _) _
  have hn1 : w1.heap[w.heap.size]? = some (.cells #[.int .i64 0, .int .i64 0, .bool false] 51 (0, 0)) := by rw [← hw1]; exact heap_alloc_new w _
  have h1 := h.below hb1
  have HA := Lib.hid (address_any h1 o)
  have hs8 : IntKind.u64.wrap ((adr base o : Int) - 8) = (adr base (o - 8) : Int) := by rw [IntKind.wrap_u64]; unfold adr; omega
  have HS8 := Lib.hid hs8
  have hwd := word_at h1 hb hl (o - 8) (by omega) _ hv
  dsimp only [wdV] at hwd
  have HW := Lib.hid hwd
  have hup := tunpack_any w1 v hvl
  rw [hu] at hup
  dsimp only [unpV] at hup
  have HU := Lib.hid hup
  have hg := getC w1 g base cap c A bs (o - (s : Int)) _ h1 hb hl (by omega) hx
  dsimp only [BlkTold, bkV, Bk.val, Option.isSome, errV] at hg
  have HG := Lib.hid hg
  have hq : ((xs : Int) != (s : Int)) = true := by rw [bne_iff_ne]; omega
  have HW1 := Lib.hid hw1
  have HB1 := Lib.hid hb1
  have HN1 := Lib.hid hn1
  clear hv hwd hu hup hx hg hne hs8 hw1 hb1 hn1 h1 h
  go_enter Tryz.func115, Tryz.ntmps115
  go_wp2_with fail
  rw [HW1.out]
  with_reducible refine HA.out.mono ?_
  rintro e w2 ⟨rfl, rfl⟩
  go_wp2_with fail
  rw [HS8.out]
  with_reducible refine HW.out.mono ?_
  rintro e w2 ⟨rfl, rfl⟩
  go_wp2_with fail
  with_reducible refine HU.out.mono ?_
  rintro e w2 ⟨rfl, rfl⟩
  go_wp2_with fail
  with_reducible refine HG.out.mono ?_
  rintro e w2 ⟨rfl, hb2⟩
  have hlt := Nat.lt_of_lt_of_le (heap_lt' HN1.out) hb2.size
  have hn2 := (hb2.block _ (heap_lt' HN1.out)).trans HN1.out
  have hb02 : Below w.heap.size w w2 := HB1.out.trans (hb2.mono HB1.out.size)
  obtain ⟨⟨c0, c1, c2⟩, f0, f1, f2⟩ := blk_cells hn2
  have HN2 := Lib.hid hn2
  have HB2 := Lib.hid hb02
  clear hn2 hb02 hb2
  go_wp2
  (try simp only [Exit.inBlock, Exit.then])
  refine blk_ret (x := errV false 3) (g := w.heap.size) (o := 0) (s := 0) (b := false) Tryz.results115 ?_ ?_ ?_ ?_ ?_
  · rfl
  · rfl
  · rfl
  · exact (((Below.refl _ _).alloc (Nat.le_refl _) _).block _ (by simp [World.setCell]; omega)).trans (blk_set HN2.out _ _ _)
  · exact ⟨rfl, (((HB2.out.setCell (Nat.le_refl _) _).setCell (Nat.le_refl _) _).setCell (Nat.le_refl _) _).alloc (by simp [World.setCell]; omega) _⟩

set_option maxHeartbeats 1000000 in
theorem ahead_5 (h : Ar w 92 g base cap A c bs) (hb : base ≤ 4611686018427387904) (hl : bs.length ≤ 16384) (o : Int) (ho : -9223372036854775808 ≤ o ∧ o ≤ 9223372036854775807) (v : Nat) (hvl : v < 18446744073709551616) (hv : word? bs (o - 8) = some v) (s : Nat) (u : Bool) (hu : unpN v = some (s, u)) (hs : 32 ≤ s ∧ s ≤ 16384) (hob : 0 ≤ o ∧ o ≤ 16384) (xo : Nat) (xu : Bool) (hx : getB bs (o - (s : Int)) = some ⟨xo, s, xu⟩) :
    Calls Tryz.prog 115 #[.pointer (some ⟨g, 0, none⟩), .int .i64 o] w fun e w' => e = .returned (.tuple #[bkV (some ⟨xo, s, xu⟩), errV true 3]) ∧ Below w.heap.size w w' := by
  obtain ⟨w1, hw1⟩ : ∃ w1, w.alloc (.cells #[.int .i64 0, .int .i64 0, .bool false] 51) = w1 := ⟨_, rfl⟩
  have hb1 : Below w.heap.size w w1 := by rw [← hw1]; exact (Below.refl _ _).alloc (Nat.le_refl _) _
  have hn1 : w1.heap[w.heap.size]? = some (.cells #[.int .i64 0, .int .i64 0, .bool false] 51 (0, 0)) := by rw [← hw1]; exact heap_alloc_new w _
  have h1 := h.below hb1
  have HA := Lib.hid (address_any h1 o)
  have hs8 : IntKind.u64.wrap ((adr base o : Int) - 8) = (adr base (o - 8) : Int) := by rw [IntKind.wrap_u64]; unfold adr; omega
  have HS8 := Lib.hid hs8
  have hwd := word_at h1 hb hl (o - 8) (by omega) _ hv
  dsimp only [wdV] at hwd
  have HW := Lib.hid hwd
  have hup := tunpack_any w1 v hvl
  rw [hu] at hup
  dsimp only [unpV] at hup
  have HU := Lib.hid hup
  have hg := getC w1 g base cap c A bs (o - (s : Int)) _ h1 hb hl (by omega) hx
  dsimp only [BlkTold, bkV, Bk.val, Option.isSome, errV] at hg
  have HG := Lib.hid hg
  have HW1 := Lib.hid hw1
  have HB1 := Lib.hid hb1
  have HN1 := Lib.hid hn1
  clear hv hwd hu hup hx hg hs8 hw1 hb1 hn1 h1 h
  go_enter Tryz.func115, Tryz.ntmps115
  go_wp2_with fail
  rw [HW1.out]
  with_reducible refine HA.out.mono ?_
  rintro e w2 ⟨rfl, rfl⟩
  go_wp2_with fail
  rw [HS8.out]
  with_reducible refine HW.out.mono ?_
  rintro e w2 ⟨rfl, rfl⟩
  go_wp2_with fail
  with_reducible refine HU.out.mono ?_
  rintro e w2 ⟨rfl, rfl⟩
  go_wp2_with fail
  with_reducible refine HG.out.mono ?_
  rintro e w2 ⟨rfl, hb2⟩
  have hlt := Nat.lt_of_lt_of_le (heap_lt' HN1.out) hb2.size
  have hn2 := (hb2.block _ (heap_lt' HN1.out)).trans HN1.out
  have hb02 : Below w.heap.size w w2 := HB1.out.trans (hb2.mono HB1.out.size)
  obtain ⟨⟨c0, c1, c2⟩, f0, f1, f2⟩ := blk_cells hn2
  have HN2 := Lib.hid hn2
  have HB2 := Lib.hid hb02
  clear hn2 hb02 hb2
  go_wp2
  (try simp only [Exit.inBlock, Exit.then])
  refine blk_ret (x := errV true 3) (g := w.heap.size) (o := (xo : Int)) (s := (s : Int)) (b := xu) Tryz.results115 ?_ ?_ ?_ ?_ ?_
  · rfl
  · rfl
  · rfl
  · exact (((Below.refl _ _).alloc (Nat.le_refl _) _).block _ (by simp [World.setCell]; omega)).trans (blk_set HN2.out _ _ _)
  · exact ⟨rfl, (((HB2.out.setCell (Nat.le_refl _) _).setCell (Nat.le_refl _) _).setCell (Nat.le_refl _) _).alloc (by simp [World.setCell]; omega) _⟩

end
theorem aheadC : AheadC := by
  intro w g base cap c A bs o x h hb hl ho hx
  subst hx
  unfold BlkTold
  rw [aheadB_eq]
  cases hv : word? bs (o - 8) with
  | none => exact ahead_1 h hb hl o ho hv
  | some v =>
    have h8 : 0 ≤ o - 8 ∧ o - 8 + 8 ≤ bs.length := by
      unfold word? at hv
      split at hv
      · assumption
      · cases hv
    have hvl : v < 18446744073709551616 := by
      have hvi : some (wordN bs (o - 8).toNat) = some v := by rw [← hv]; unfold word?; rw [if_pos h8]
      rw [← Option.some.inj hvi]
      exact wordN_lt _ _
    dsimp only
    cases hu : unpN v with
    | none => exact ahead_2 h hb hl o ho v hvl hv hu
    | some su =>
      obtain ⟨s, u⟩ := su
      have hss := (isSz_iff _).1 (unpN_some hu).1
      dsimp only
      cases hx : getB bs (o - (s : Int)) with
      | none => exact ahead_3 h hb hl o ho v hvl hv s u hu (by omega) (by omega) hx
      | some x =>
        obtain ⟨xo, xs, xu⟩ := x
        dsimp only
        by_cases hs : xs = s
        · subst hs
          rw [if_pos rfl]
          exact ahead_5 h hb hl o ho v hvl hv xs u hu (by omega) (by omega) xo xu hx
        · rw [if_neg hs]
          exact ahead_4 h hb hl o ho v hvl hv s u hu (by omega) (by omega) xo xs xu hx hs
end Go.Proofs.YtbemaoncakcnjaaGreat

/- The contract of the program's Set: both tags of a block, all ways. -/
namespace Go.Proofs.YtbemaoncakcnjaaGreat
open Go.RowKit

theorem layN_swap (bs : List UInt8) (o v e k : Nat) (h1 : o + 8 ≤ e) (h2 : e + 8 ≤ bs.length) : layN (layN bs e k) o v = layN (layN bs o v) e k := by
  have hv := lowB_length 8 v
  have hk := lowB_length 8 k
  unfold layN lay
  rw [hv, hk]
  refine List.ext_getElem? fun i => ?_
  simp only [List.getElem?_append, List.length_append, List.length_take, List.length_drop, List.getElem?_take, List.getElem?_drop, hv, hk]
  repeat' split
  all_goals first | rfl | omega | (congr 1; omega) | skip
theorem Became.trans {t : TypeId} {g base cap c' : Nat} {A A' : Option Addr} {b1 b2 : List UInt8} {w w1 w2 : World} (h : Ar w1 t g base cap A' c' b1) (ht : Tch (foot g A) w w1) (hA : A' = A ∨ ∀ a, A' = some a → w.heap.size ≤ a.block) (k : Became t g base cap A' b2 w1 w2) : Became t g base cap A b2 w w2 := by
  obtain ⟨A2, c2, k1, k2, k3⟩ := k
  refine ⟨A2, c2, k1, ht.trans k2 (fun i hi hf => ?_), ?_⟩
  · rcases hf with rfl | ⟨a, e, rfl⟩
    · exact .inl rfl
    · rcases hA with hA | hA
      · exact .inr ⟨a, hA ▸ e, rfl⟩
      · exact absurd (hA a e) (by omega)
  · rcases k3 with k3 | k3
    · rcases hA with hA | hA
      · exact .inl (k3.trans hA)
      · exact .inr fun a ha => hA a (k3 ▸ ha)
    · exact .inr fun a ha => Nat.le_trans ht.size (k3 a ha)

section
variable {w : World} {g base cap c : Nat} {A : Option Addr} {bs : List UInt8}
set_option maxHeartbeats 1000000 in
theorem set_1 (w : World) (g : Nat) (o s : Int) (hs : -9223372036854775808 ≤ s ∧ s ≤ 9223372036854775807) (u : Bool) (m : Nat) (hm : packN s u = m) (h0 : m = 0) :
    Calls Tryz.prog 99 #[.pointer (some ⟨g, 0, none⟩), .agg #[.int .i64 o, .int .i64 s, .bool u]] w fun e w' => e = .returned (errV false 1) ∧ Below w.heap.size w w' := by
  obtain ⟨w1, hw1⟩ : ∃ w1, w.alloc (.cells #[.int .i64 o, .int .i64 s, .bool u] 51) = w1 := ⟨_, rfl⟩
  have hb1 : Below w.heap.size w w1 := by rw [← hw1]; exact (Below.refl _ _).alloc (Nat.le_refl _) _
  have hn1 : w1.heap[w.heap.size]? = some (.cells #[.int .i64 o, .int .i64 s, .bool u] 51 (0, 0)) := by rw [← hw1]; exact heap_alloc_new w _
  have HP := Lib.hid (tpack_any w1 s u (by omega) m hm)
  have HW1 := Lib.hid hw1
  have HB1 := Lib.hid hb1
  have HN1 := Lib.hid hn1
  subst h0
  clear hm hw1 hb1 hn1
  go_enter Tryz.func99, Tryz.ntmps99
  obtain ⟨⟨c0, c1, c2⟩, f0, f1, f2⟩ := blk_cells HN1.out
  go_wp2_with fail
  rw [HW1.out]
  go_wp2_with fail
  with_reducible refine HP.out.mono ?_
  rintro e w2 ⟨rfl, rfl⟩
  go_wp2
  go_ret
  exact ⟨rfl, HB1.out⟩

set_option maxHeartbeats 1000000 in
theorem set_2 (w : World) (g : Nat) (o : Int) (ho : -9223372036854775808 ≤ o ∧ o ≤ 9223372036854775807) (s : Int) (hs : -9223372036854775808 ≤ s ∧ s ≤ 9223372036854775807) (u : Bool) (m : Nat) (hm : packN s u = m) (h0 : m ≠ 0) (hc : plc o = false) :
    Calls Tryz.prog 99 #[.pointer (some ⟨g, 0, none⟩), .agg #[.int .i64 o, .int .i64 s, .bool u]] w fun e w' => e = .returned (errV false 1) ∧ Below w.heap.size w w' := by
  obtain ⟨w1, hw1⟩ : ∃ w1, w.alloc (.cells #[.int .i64 o, .int .i64 s, .bool u] 51) = w1 := ⟨_, rfl⟩
  have hb1 : Below w.heap.size w w1 := by rw [← hw1]; exact (Below.refl _ _).alloc (Nat.le_refl _) _
  have hn1 : w1.heap[w.heap.size]? = some (.cells #[.int .i64 o, .int .i64 s, .bool u] 51 (0, 0)) := by rw [← hw1]; exact heap_alloc_new w _
  have HP := Lib.hid (tpack_any w1 s u (by omega) m hm)
  have HC := Lib.hid (isplace_any w1 o ho false hc)
  have hm0 : ((m : Int) == 0) = false := by rw [beq_eq_false_iff_ne]; omega
  have HW1 := Lib.hid hw1
  have HB1 := Lib.hid hb1
  have HN1 := Lib.hid hn1
  clear hm hw1 hb1 hn1 h0 hc
  go_enter Tryz.func99, Tryz.ntmps99
  obtain ⟨⟨c0, c1, c2⟩, f0, f1, f2⟩ := blk_cells HN1.out
  go_wp2_with fail
  rw [HW1.out]
  go_wp2_with fail
  with_reducible refine HP.out.mono ?_
  rintro e w2 ⟨rfl, rfl⟩
  go_wp2_with fail
  with_reducible refine HC.out.mono ?_
  rintro e w2 ⟨rfl, rfl⟩
  go_wp2
  go_ret
  exact ⟨rfl, HB1.out⟩

set_option maxHeartbeats 1000000 in
theorem set_3 (h : Ar w 92 g base cap A c bs) (hb : base ≤ 4611686018427387904) (hl : bs.length ≤ 16384) (o : Int) (ho : -9223372036854775808 ≤ o ∧ o ≤ 9223372036854775807) (s : Int) (hs : -9223372036854775808 ≤ s ∧ s ≤ 9223372036854775807) (u : Bool) (m : Nat) (hm : packN s u = m) (hm2 : m < 18446744073709551616) (h0 : m ≠ 0) (hc : plc o = true) (hss : 32 ≤ s ∧ s ≤ 16384) (hlt : (bs.length : Int) < o + s) :
    Calls Tryz.prog 99 #[.pointer (some ⟨g, 0, none⟩), .agg #[.int .i64 o, .int .i64 s, .bool u]] w fun e w' => e = .returned (errV false 1) ∧ Below w.heap.size w w' := by
  obtain ⟨w1, hw1⟩ : ∃ w1, w.alloc (.cells #[.int .i64 o, .int .i64 s, .bool u] 51) = w1 := ⟨_, rfl⟩
  have hb1 : Below w.heap.size w w1 := by rw [← hw1]; exact (Below.refl _ _).alloc (Nat.le_refl _) _
  have hn1 : w1.heap[w.heap.size]? = some (.cells #[.int .i64 o, .int .i64 s, .bool u] 51 (0, 0)) := by rw [← hw1]; exact heap_alloc_new w _
  have h1 := h.below hb1
  have HP := Lib.hid (tpack_any w1 s u (by omega) m hm)
  have HC := Lib.hid (isplace_any w1 o ho true hc)
  have hm0 : ((m : Int) == 0) = false := by rw [beq_eq_false_iff_ne]; omega
  have hpl := (plc_iff o).1 hc
  obtain ⟨z, hz⟩ : ∃ z, wrap64 (wrap64 (o + s) - 8) = z := ⟨_, rfl⟩
  have hzb : -9223372036854775808 ≤ z ∧ z ≤ 9223372036854775807 ∧ (z < 0 ∨ (bs.length : Int) < z + 8) := by rw [← hz]; unfold wrap64; omega
  have HZ := Lib.hid hz
  have HA := Lib.hid (address_any h1 z)
  have HS := Lib.hid (setword_no h1 (by omega) (adr base z) m (adr_lt _ _) hm2 (adr_neg base hb z (by omega) bs.length 8 (by omega) (by omega) hzb.2.2))
  have HW1 := Lib.hid hw1
  have HB1 := Lib.hid hb1
  have HN1 := Lib.hid hn1
  clear hm hw1 hb1 hn1 h0 hc h1 h hz hpl
  go_enter Tryz.func99, Tryz.ntmps99
  obtain ⟨⟨c0, c1, c2⟩, f0, f1, f2⟩ := blk_cells HN1.out
  go_wp2_with fail
  rw [HW1.out]
  go_wp2_with fail
  with_reducible refine HP.out.mono ?_
  rintro e w2 ⟨rfl, rfl⟩
  go_wp2_with fail
  with_reducible refine HC.out.mono ?_
  rintro e w2 ⟨rfl, rfl⟩
  go_wp2_with fail
  rw [HZ.out]
  with_reducible refine HA.out.mono ?_
  rintro e w2 ⟨rfl, rfl⟩
  go_wp2_with fail
  with_reducible refine HS.out.mono ?_
  rintro e w2 ⟨rfl, hb2⟩
  have HB2 := Lib.hid (HB1.out.trans (hb2.mono HB1.out.size))
  clear hb2
  go_wp2
  go_ret
  exact ⟨rfl, HB2.out⟩

set_option maxHeartbeats 1000000 in
theorem set_4 (h : Ar w 92 g base cap A c bs) (hb : base ≤ 4611686018427387904) (hl : bs.length ≤ 16384) (o s : Nat) (u : Bool) (m : Nat) (hm : packN (s : Int) u = m) (hm2 : m < 18446744073709551616) (h0 : m ≠ 0) (hc : plc (o : Int) = true) (hss : 32 ≤ s ∧ s ≤ 16384) (hle : o + s ≤ bs.length) :
    Calls Tryz.prog 99 #[.pointer (some ⟨g, 0, none⟩), .agg #[.int .i64 (o : Int), .int .i64 (s : Int), .bool u]] w fun e w' => e = .returned (errV true 1) ∧ Became 92 g base cap A (layN (layN bs o m) (o + s - 8) m) w w' := by
  obtain ⟨w1, hw1⟩ : ∃ w1, w.alloc (.cells #[.int .i64 (o : Int), .int .i64 (s : Int), .bool u] 51) = w1 := ⟨_, rfl⟩
  have hb1 : Below w.heap.size w w1 := by rw [← hw1]; exact (Below.refl _ _).alloc (Nat.le_refl _) _
  have hn1 : w1.heap[w.heap.size]? = some (.cells #[.int .i64 (o : Int), .int .i64 (s : Int), .bool u] 51 (0, 0)) := by rw [← hw1]; exact heap_alloc_new w _
  have h1 := h.below hb1
  have HP := Lib.hid (tpack_any w1 (s : Int) u (by omega) m hm)
  have HC := Lib.hid (isplace_any w1 (o : Int) (by omega) true hc)
  have hm0 : ((m : Int) == 0) = false := by rw [beq_eq_false_iff_ne]; omega
  have hgl : ∀ k, foot g A k → k < w.heap.size := fun k hk => h.foot_lt hk
  have HA := Lib.hid (address_any h1 ((o : Int) + (s : Int) - 8))
  have e1 : adr base ((o : Int) + (s : Int) - 8) = base + (o + s - 8) := by rw [show (o : Int) + (s : Int) - 8 = ((o + s - 8 : Nat) : Int) by omega]; exact adr_pos base hb _ (by omega)
  obtain ⟨x1, hx1⟩ : ∃ x1 : Nat, base + (o + s - 8) = x1 := ⟨_, rfl⟩
  obtain ⟨x2, hx2⟩ : ∃ x2 : Nat, base + o = x2 := ⟨_, rfl⟩
  rw [e1, hx1] at HA
  have HS := Lib.hid (setword_ok h1 (by omega) x1 (o + s - 8) m (by omega) hm2 (by omega) (by omega) (by omega))
  have HW1 := Lib.hid hw1
  have HB1 := Lib.hid hb1
  have HN1 := Lib.hid hn1
  have HSW := Lib.hid (layN_swap bs o m (o + s - 8) m (by omega) (by omega))
  have HGL := Lib.hid hgl
  have HX2 := Lib.hid hx2
  have HBB := Lib.hid hb
  clear hm hw1 hb1 hn1 h0 hc h1 h e1 hgl hx1
  go_enter Tryz.func99, Tryz.ntmps99
  obtain ⟨⟨c0, c1, c2⟩, f0, f1, f2⟩ := blk_cells HN1.out
  go_wp2_with fail
  rw [HW1.out]
  go_wp2_with fail
  with_reducible refine HP.out.mono ?_
  rintro e w2 ⟨rfl, rfl⟩
  go_wp2_with fail
  with_reducible refine HC.out.mono ?_
  rintro e w2 ⟨rfl, rfl⟩
  go_wp2_with fail
  with_reducible refine HA.out.mono ?_
  rintro e w2 ⟨rfl, rfl⟩
  go_wp2_with fail
  with_reducible refine HS.out.mono ?_
  rintro e w2 ⟨rfl, A2, c2, a2, t2, k2⟩
  have hn2 := (t2.block _ (heap_lt HN1.out) (fun hf => absurd (HGL.out _ hf) (by omega))).trans HN1.out
  obtain ⟨⟨d0, d1, d2⟩, _⟩ := blk_cells hn2
  have HA2 := Lib.hid (address_any a2 (o : Int))
  rw [adr_pos base HBB.out o (by omega), HX2.out] at HA2
  have HS2 := Lib.hid (setword_ok a2 (by rw [lay_length _ _ _ (by rw [lowB_length]; omega)]; omega) x2 o m (by omega) hm2 (by omega) (by omega) (by rw [lay_length _ _ _ (by rw [lowB_length]; omega)]; omega))
  have HAR := Lib.hid a2
  have HT := Lib.hid t2
  have HK := Lib.hid k2
  clear a2 t2 k2 hn2
  go_wp2_with fail
  with_reducible refine HA2.out.mono ?_
  rintro e w3 ⟨rfl, rfl⟩
  go_wp2_with fail
  with_reducible refine HS2.out.mono ?_
  rintro e w3 ⟨rfl, hbe⟩
  have hbe2 := (Became.trans HAR.out HT.out HK.out hbe).after HB1.out
  have hbe3 : Became 92 g base cap A (layN (layN bs o m) (o + s - 8) m) w w3 := by rw [← HSW.out]; exact hbe2
  have HE := Lib.hid hbe3
  clear hbe hbe2 hbe3
  go_wp2
  go_ret
  exact ⟨rfl, HE.out⟩

end
theorem setC : SetC := by
  intro w g base cap c A bs o s u y h hb hl ho hs hy
  subst hy
  cases hz : isSz s with
  | false =>
    have e : setB bs o s u = none := by unfold setB; rw [if_neg (fun h => by rw [hz] at h; cases h.1)]
    rw [e]
    exact set_1 w g o s hs u _ rfl (by simp [packN, hz])
  | true =>
    have hss := (isSz_iff _).1 hz
    have hm0 : packN s u ≠ 0 := by
      simp only [packN, hz, if_true]
      omega
    have hm2 : packN s u < 18446744073709551616 := by have := packN_lt s u; omega
    cases hc : plc o with
    | false =>
      have e : setB bs o s u = none := by
        unfold setB
        rw [if_neg]
        rintro ⟨_, h2⟩
        have := (could_iff _ _ _).1 h2
        rw [(plc_iff o).2 (by omega)] at hc
        cases hc
      rw [e]
      exact set_2 w g o ho s hs u _ rfl hm0 hc
    | true =>
      have hp := (plc_iff o).1 hc
      by_cases hle : o + s ≤ bs.length
      · obtain ⟨p, rfl⟩ : ∃ p : Nat, o = (p : Int) := ⟨o.toNat, by omega⟩
        obtain ⟨q, rfl⟩ : ∃ q : Nat, s = (q : Int) := ⟨s.toNat, by omega⟩
        have e : setB bs (p : Int) (q : Int) u = some (layN (layN bs p (packN (q : Int) u)) (p + q - 8) (packN (q : Int) u)) := by
          unfold setB
          rw [if_pos ⟨hz, (could_iff _ _ _).2 (by omega)⟩, Int.toNat_natCast, show ((p : Int) + (q : Int) - 8).toNat = p + q - 8 by omega]
        rw [e]
        exact set_4 h hb hl p q u _ rfl hm2 hm0 hc (by omega) (by omega)
      · have e : setB bs o s u = none := by
          unfold setB
          rw [if_neg]
          rintro ⟨_, h2⟩
          have := (could_iff _ _ _).1 h2
          omega
        rw [e]
        exact set_3 h hb hl o ho s hs u _ rfl hm2 hm0 hc (by omega) (by omega)
end Go.Proofs.YtbemaoncakcnjaaGreat

/- The contract of the program's Walk: all blocks. -/
namespace Go.Proofs.YtbemaoncakcnjaaGreat
open Go.RowKit

set_option maxRecDepth 100000 in
set_option maxHeartbeats 2000000 in
theorem walkC : WalkC := by
  intro w g base cap c A bs x h hb hl hx
  by_cases h0 : bs.length < 184
  · obtain rfl : none = x := by rw [← hx]; unfold walkB; rw [if_pos h0]
    have HL := Lib.hid (len_any h)
    clear hx
    go_enter Tryz.func24, Tryz.ntmps24
    go_wp2_with fail
    with_reducible refine HL.out.mono ?_
    rintro e w2 ⟨rfl, rfl⟩
    go_wp2
    go_ret2
    exact ⟨none, 0, rfl, World.ownsRow_nil _ _ _ _, Below.refl _ _⟩
  · have hx' : walkF bs (bs.length + 1) 184 = x := by rw [← hx]; unfold walkB; rw [if_neg h0]
    obtain ⟨i0, hi, hz0, hz1, hz2⟩ := info_parts bk_inf
    have HX := Lib.hid hx'
    have HAR := Lib.hid h
    have HBASE := Lib.hid hb
    have HL := Lib.hid (len_any h)
    obtain ⟨B0, hB0⟩ : ∃ B0, w.heap.size = B0 := ⟨_, rfl⟩
    have HB0 := Lib.hid hB0
    clear hx hx' h hB0 hb
    go_enter Tryz.func24, Tryz.ntmps24
    go_wp2_with fail
    with_reducible refine HL.out.mono ?_
    rintro e w2 ⟨rfl, rfl⟩
    go_wp2
    go_loopw [4, 5] (fun q t wr => ∃ (l : List Bk) (o k : Nat), t = .int .i64 (o : Int) ∧ 184 ≤ o ∧ o ≤ bs.length ∧ bs.length < o + k ∧ l.length * 32 ≤ o ∧ x = (walkF bs k o).map (l ++ ·) ∧ wr.ownsRow B0 51 3 q l.length (flatK l) ∧ Below B0 w wr) (fun _ t _ => bs.length - (intOf t).toNat)
    case atStart => exact ⟨[], 184, bs.length + 1, rfl, Nat.le_refl _, by omega, by omega, by simp, by rw [HX.out]; simp, World.ownsRow_nil _ _ _ _, Below.refl _ _⟩
    case round =>
      obtain ⟨l, o, k, rfl, ho1, ho2, hk, hll, hxl, hown, hb⟩ := hrel
      obtain ⟨A7, c7, rfl⟩ := own_sl hown
      obtain ⟨k, rfl⟩ : ∃ k', k = k' + 1 := ⟨k - 1, by omega⟩
      have hBw : B0 ≤ wr.heap.size := by have := hb.size; have := HB0.out; omega
      have har := HAR.out.below (by rw [HB0.out]; exact hb)
      have HLR := Lib.hid (len_any har)
      by_cases hlt : o < bs.length
      · cases hg : getB bs (o : Int) with
        | none =>
          have hG := getC wr g base cap c A bs (o : Int) _ har HBASE.out hl (by omega) hg
          dsimp only [BlkTold, bkV, Option.isSome, errV] at hG
          obtain rfl : x = none := by rw [hxl]; simp [walkF, hlt, hg]
          have HG := Lib.hid hG
          have HB := Lib.hid hb
          clear hG hown hb hg hxl har HX HAR
          go_wp2_with fail
          with_reducible refine HLR.out.mono ?_
          rintro e w2 ⟨rfl, rfl⟩
          go_wp2_with fail
          with_reducible refine HG.out.mono ?_
          rintro e w2 ⟨rfl, hb2⟩
          have HB2 := Lib.hid (HB.out.trans (hb2.mono hBw))
          clear hb2
          go_wp2
          go_ret2
          exact ⟨none, 0, rfl, World.ownsRow_nil _ _ _ _, by rw [HB0.out]; exact HB2.out.alloc (by have := HB2.out.size; have := HB0.out; omega) _⟩
        | some y =>
          obtain ⟨yo, ys, yu⟩ := y
          obtain ⟨q1, _, _, q2, q3, _⟩ := getB_some hg
          dsimp only at q1 q2 q3
          obtain rfl : o = yo := by omega
          have q4 := (isSz_iff _).1 q3
          have hG := getC wr g base cap c A bs (o : Int) _ har HBASE.out hl (by omega) hg
          dsimp only [BlkTold, bkV, Bk.val, Option.isSome, errV] at hG
          have hxl' : x = (walkF bs k (o + ys)).map ((l ++ [⟨o, ys, yu⟩]) ++ ·) := by
            rw [hxl]
            simp [walkF, hlt, hg, Option.map_map, Function.comp_def]
          have HG := Lib.hid hG
          have HB := Lib.hid hb
          have HXL := Lib.hid hxl'
          have HOWN := Lib.hid hown
          have HALT : Hid (∀ k, (Value.slice A7 l.length c7).ownBlock = some k → B0 ≤ k ∧ k < wr.heap.size) := hown.lt
          clear hG hown hb hg hxl hxl' har q1 q3 HX HAR
          go_wp2_with fail
          with_reducible refine HLR.out.mono ?_
          rintro e w2 ⟨rfl, rfl⟩
          go_wp2_with fail
          with_reducible refine HG.out.mono ?_
          rintro e w2 ⟨rfl, hb2⟩
          have own2 := own_below' HOWN.out hb2
          have HB2 := Lib.hid (HB.out.trans (hb2.mono hBw))
          have hw2 : B0 ≤ w2.heap.size := Nat.le_trans hBw hb2.size
          have hwr := hb2.size
          obtain ⟨w3, hw3⟩ : ∃ w3, w2.alloc (.cells #[.int .i64 (o : Int), .int .i64 (ys : Int), .bool yu] 51) = w3 := ⟨_, rfl⟩
          obtain ⟨w4, hw4⟩ : ∃ w4, w3.alloc (.cells #[.int .i64 (o : Int), .int .i64 (ys : Int), .bool yu] 51) = w4 := ⟨_, rfl⟩
          have b3 : Below w2.heap.size w2 w3 := by rw [← hw3]; exact (Below.refl _ _).alloc (Nat.le_refl _) _
          have b4 : Below w3.heap.size w3 w4 := by rw [← hw4]; exact (Below.refl _ _).alloc (Nat.le_refl _) _
          have own4 := own_below' (own_below' own2 b3) b4
          have n4 : w4.heap[w3.heap.size]? = some (.cells #[.int .i64 (o : Int), .int .i64 (ys : Int), .bool yu] 51 (0, 0)) := by rw [← hw4]; exact heap_alloc_new w3 _
          have s3 : w3.heap.size = w2.heap.size + 1 := by rw [← hw3]; simp
          have n3 : w3.heap[w2.heap.size]? = some (.cells #[.int .i64 (o : Int), .int .i64 (ys : Int), .bool yu] 51 (0, 0)) := by rw [← hw3]; exact heap_alloc_new w2 _
          obtain ⟨⟨d0, d1, d2⟩, _⟩ := blk_cells n3
          have n4' := (b4.block _ (heap_lt' n3)).trans n3
          have HNEW : Hid (∀ j u, [Value.int .i64 (o : Int), .int .i64 (ys : Int), .bool yu][j]? = some u → w4.cell? ((⟨w3.heap.size, 0, none⟩ : Addr).add j) = some u) := fun j u hu => by
            have e : (⟨w3.heap.size, 0, none⟩ : Addr).add j = ⟨w3.heap.size, j, none⟩ := by unfold Addr.add; split <;> simp_all
            rw [e, cell_of_row w4 _ j _ _ (0, 0) n4]
            simpa using hu
          have HONE : Hid (∀ u ∈ [Value.int .i64 (o : Int), .int .i64 (ys : Int), .bool yu], u.oneCell' = true) := fun u hu => by
            simp at hu
            rcases hu with rfl | rfl | rfl <;> rfl
          have hB4 : B0 ≤ w4.heap.size := by have := b4.size; omega
          have HB4 := Lib.hid (HB2.out.trans ((b3.trans (b4.mono b3.size)).mono hw2))
          have OWN4 := Lib.hid own4
          have HN4 := Lib.hid n4'
          have hs4 : w3.heap.size < w4.heap.size := heap_lt' n4
          have HS3 := Lib.hid s3
          have HFL : Hid (flatK (l ++ [⟨o, ys, yu⟩]) = flatK l ++ [.int .i64 (o : Int), .int .i64 (ys : Int), .bool yu]) := flatK_append _ _
          have hg2 : w2.heap.size < w4.heap.size := heap_lt' n4'
          clear own2 own4 n3 n4 n4' b3 b4 hb2 HOWN HG s3
          go_wp2_with (first
            | (at_builtin; go_must (refine wpList_append_own _ rfl _ _ 28 rfl B0 51 i0 _ 3 24 Tryz.underlying28 hi hz0 hz1 hz2 rfl (by decide) _ l.length (flatK l) rfl OWN4.out ⟨w3.heap.size, 0, none⟩ 1 1 [.int .i64 (o : Int), .int .i64 (ys : Int), .bool yu] rfl rfl HNEW.out HONE.out (by unfold maxLen; omega) (by omega) hB4 ?_); intro x5 w5 own5 gr5 at5;
               have gr5' : w4.grownBy w5 (Value.slice A7 l.length c7).ownBlock := gr5; have e5 := (gr5'.block _ hg2 (fun e => by have := (HALT.out _ e.symm).2; omega)).trans HN4.out; obtain ⟨⟨c0, c1, c2⟩, _⟩ := blk_cells e5; have HB5 : Hid (Below B0 w w5) := HB4.out.grown gr5' hB4 (fun k hk => (HALT.out k hk).1); have OWN5 : Hid (w5.ownsRow B0 51 3 x5 (l.length + 1) (flatK (l ++ [⟨o, ys, yu⟩]))) := (show World.ownsRow _ _ _ _ _ _ _ by rw [HFL.out]; exact own5); clear own5 gr5 gr5' at5 e5)
            | fail)
          go_roundw
          case rel => exact ⟨l ++ [⟨o, ys, yu⟩], o + ys, k, by go_num, by omega, by omega, by omega, by rw [List.length_append, List.length_singleton]; omega, HXL.out, by rw [List.length_append, List.length_singleton]; exact OWN5.out, HB5.out⟩
          case measure => simp [intOf]; omega
      · obtain rfl : o = bs.length := by omega
        obtain rfl : x = some l := by rw [hxl]; simp [walkF]
        have HB := Lib.hid hb
        have HO := Lib.hid hown
        clear hxl hown hb HX har HAR
        go_wp2_with fail
        with_reducible refine HLR.out.mono ?_
        rintro e w2 ⟨rfl, rfl⟩
        go_wp2
        go_ret2
        exact ⟨A7, c7, rfl, by rw [HB0.out]; exact HO.out, by rw [HB0.out]; exact HB.out⟩
end Go.Proofs.YtbemaoncakcnjaaGreat

/- How a world stands in the walks of the laws of layers 7 to 11: an arena of the law's own, blocks behind a bound, what was there below it. -/
namespace Go.Proofs.YtbemaoncakcnjaaGreat
open Go.RowKit

/-- Since wB nothing below has changed; an arena lies above; these objects, too. -/
structure St (wB W : World) (g base cap : Nat) (A : Option Addr) (c : Nat) (bs : List UInt8) (L : List (Nat × Obj)) : Prop where
  bel : Below wB.heap.size wB W
  ar : Ar W 92 g base cap A c bs
  gB : wB.heap.size ≤ g
  aB : ∀ a, A = some a → wB.heap.size ≤ a.block
  has : ∀ p ∈ L, W.heap[p.1]? = some p.2

section
variable {wB W W' : World} {g base cap c : Nat} {A : Option Addr} {bs : List UInt8} {L : List (Nat × Obj)}
theorem St.size (h : St wB W g base cap A c bs L) : wB.heap.size ≤ W.heap.size := h.bel.size
theorem St.below (h : St wB W g base cap A c bs L) (hb : Below W.heap.size W W') : St wB W' g base cap A c bs L :=
  ⟨h.bel.trans (hb.mono h.size), h.ar.below hb, h.gB, h.aB, fun p hp => (hb.block p.1 (heap_lt (h.has p hp))).trans (h.has p hp)⟩
theorem St.made {w : World} {e : Ending} {w' : World} (h : MadeAr base cap bs w e w') : ∃ g A c, e = .returned (.pointer (some ⟨g, 0, none⟩)) ∧ St w w' g base cap A c bs [] := by
  obtain ⟨g, A, c, he, har, hb, hg, hA⟩ := h
  exact ⟨g, A, c, he, hb, har, hg, hA, fun p hp => by cases hp⟩
end
end Go.Proofs.YtbemaoncakcnjaaGreat

/- A region that draws its order, with one place at which two operations that are no readers may come up, one ahead of the other; a struct of a block made and filled in a region. -/
namespace Go.Proofs.YtbemaoncakcnjaaGreat
open Go.RowKit

section
variable {P : Program} {ops : Array Oper} {Q : Exit → Act → World → Prop}
end

/-- A new block's struct. -/
theorem alloc_blk (ρ : Operand → Value) (o : Oper) (ho : o.op = .alloc 51) (w : World) :
    (execOp ρ o).run Tryz.prog w = .ok (.value (.pointer (some ⟨w.heap.size, 0, none⟩))) (w.alloc (.cells #[.int .i64 0, .int .i64 0, .bool false] 51)) := by
  unfold execOp
  simp only [ho]
  simp [go_sem]

theorem store_blk (ρ : Operand → Value) (o : Oper) (x y : Operand) (ho : o.op = .store 51 x y) (w : World) (gx : Nat) (p q : Int) (r : Bool) (v0 v1 v2 : Value) (hx : ρ x = .pointer (some ⟨gx, 0, none⟩)) (hy : ρ y = .agg #[.int .i64 p, .int .i64 q, .bool r]) (h : w.heap[gx]? = some (.cells #[v0, v1, v2] 51 (0, 0))) :
    (execOp ρ o).run Tryz.prog w = .ok .skip (((w.setCell ⟨gx, 0, none⟩ (.int .i64 p)).setCell ⟨gx, 1, none⟩ (.int .i64 q)).setCell ⟨gx, 2, none⟩ (.bool r)) := by
  obtain ⟨⟨e0, e1, e2⟩, f0, f1, f2⟩ := blk_cells h
  unfold execOp
  simp only [ho, hx, hy]
  simp [go_sem, e0, e1, e2, f0, f1, f2]

section
variable {wB W : World} {g base cap c : Nat} {A : Option Addr} {bs : List UInt8} {L : List (Nat × Obj)}
end
end Go.Proofs.YtbemaoncakcnjaaGreat

/- What the program's lists (layer 9) are to tell: the words in which the laws ask for it. -/
namespace Go.Proofs.YtbemaoncakcnjaaGreat
open Go.RowKit

/-- Numbers, or an error. -/
def NumsTold (x : Option (List Nat)) (k : Int) (w : World) (e : Ending) (w' : World) : Prop :=
  ∃ A' c', e = .returned (.tuple #[.slice A' (x.getD []).length c', errV x.isSome k]) ∧ w'.ownsRow w.heap.size 3 1 (.slice A' (x.getD []).length c') (x.getD []).length ((x.getD []).map iV) ∧ Below w.heap.size w w'

def PutC : Prop := ∀ (w : World) (g base cap c : Nat) (A : Option Addr) (bs : List UInt8) (o : Int) (y : Option (List UInt8)), Ar w 92 g base cap A c bs → base ≤ 4611686018427387904 → bs.length ≤ 16384 → (-9223372036854775808 ≤ o ∧ o ≤ 9223372036854775807) → putB bs o = y →
  Calls Tryz.prog 100 #[.pointer (some ⟨g, 0, none⟩), .int .i64 o] w fun e w' => Done 3 92 g base cap A y w e w'
def TakeC : Prop := ∀ (w : World) (g base cap c : Nat) (A : Option Addr) (bs : List UInt8) (o : Int) (y : Option (List UInt8)), Ar w 92 g base cap A c bs → base ≤ 4611686018427387904 → bs.length ≤ 16384 → (-9223372036854775808 ≤ o ∧ o ≤ 9223372036854775807) → takeB bs o = y →
  Calls Tryz.prog 116 #[.pointer (some ⟨g, 0, none⟩), .int .i64 o] w fun e w' => Done 3 92 g base cap A y w e w'
def AllC : Prop := ∀ (w : World) (g base cap c : Nat) (A : Option Addr) (bs : List UInt8) (k : Nat) (x : Option (List Nat)), Ar w 92 g base cap A c bs → base ≤ 4611686018427387904 → bs.length ≤ 16384 → k < 22 → allB bs k = x →
  Calls Tryz.prog 90 #[.pointer (some ⟨g, 0, none⟩), .int .i64 (k : Int)] w fun e w' => NumsTold x 3 w e w'
end Go.Proofs.YtbemaoncakcnjaaGreat

/- The program's lists (layer 9): a number at an offset, told and laid; a class's place and bit. -/
namespace Go.Proofs.YtbemaoncakcnjaaGreat
open Go.RowKit

theorem ru64_eq {a b : Int} (h : a = b) : Ending.returned (.int .u64 a) = .returned (.int .u64 b) := by rw [h]
/-- A call that lays bytes, behind others that did. -/
theorem step_became {t : TypeId} {g base cap : Nat} {A : Option Addr} {b1 b2 : List UInt8} {w w1 : World} {F : Nat} {args : Array Value} {r : Ending} (h : Became t g base cap A b1 w w1)
    (hc : ∀ A' c', Ar w1 t g base cap A' c' b1 → Calls Tryz.prog F args w1 fun e w2 => e = r ∧ Became t g base cap A' b2 w1 w2) : Calls Tryz.prog F args w1 fun e w2 => e = r ∧ Became t g base cap A b2 w w2 := by
  obtain ⟨A', c', a, tc, k⟩ := h
  refine (hc A' c' a).mono ?_
  rintro e w2 ⟨h1, h2⟩
  exact ⟨h1, Became.trans a tc k h2⟩

section
variable {w : World} {g base cap c : Nat} {A : Option Addr} {bs : List UInt8}
set_option maxHeartbeats 400000 in
theorem lnumber_any (h : Ar w 92 g base cap A c bs) (hb : base ≤ 4611686018427387904) (hl : bs.length ≤ 16384) (o : Int) (p : Nat) (hp : o = (p : Int)) (ho : p + 8 ≤ bs.length) (v : Nat) (hv : wordN bs p = v) :
    Calls Tryz.prog 110 #[.pointer (some ⟨g, 0, none⟩), .int .i64 o] w fun e w' => e = .returned (.int .u64 (v : Int)) ∧ w = w' := by
  subst hp
  have HA := Lib.hid (base_any h)
  have hwd := word_at h hb hl (p : Int) (by omega) (some v) (by unfold word?; rw [if_pos (by omega), Int.toNat_natCast, hv])
  dsimp only [wdV] at hwd
  rw [adr_pos base hb p (by omega), show ((base + p : Nat) : Int) = (base : Int) + (p : Int) by omega] at hwd
  have HW := Lib.hid hwd
  have hp2 : p ≤ 16384 := by omega
  clear hwd h hv ho hl
  go_enter Tryz.func110, Tryz.ntmps110
  go_wp2_with fail
  with_reducible refine HA.out.mono ?_
  rintro e w1 ⟨rfl, rfl⟩
  go_wp2_with fail
  refine HW.out.mono ?_
  rintro e w1 ⟨rfl, rfl⟩
  go_wp2
  go_ret
  exact ⟨rfl, rfl⟩

set_option maxHeartbeats 400000 in
theorem lset_any (h : Ar w 92 g base cap A c bs) (hb : base ≤ 4611686018427387904) (hl : bs.length ≤ 16384) (o : Int) (p : Nat) (hp : o = (p : Int)) (ho : p + 8 ≤ bs.length) (v : Nat) (hv : v < 18446744073709551616) :
    Calls Tryz.prog 120 #[.pointer (some ⟨g, 0, none⟩), .int .i64 o, .int .u64 (v : Int)] w fun e w' => e = .returned (.tuple #[]) ∧ Became 92 g base cap A (lyN bs p v) w w' := by
  subst hp
  have HA := Lib.hid (base_any h)
  have hwd := setword_ok h (by omega) (base + p) p v (by omega) hv (by omega) (by omega) ho
  rw [show lay bs p (lowB 8 v) = lyN bs p v from layN_eq bs p v, show ((base + p : Nat) : Int) = (base : Int) + (p : Int) by omega] at hwd
  have HW := Lib.hid hwd
  have hp2 : p ≤ 16384 := by omega
  clear hwd h ho hl
  go_enter Tryz.func120, Tryz.ntmps120
  go_wp2_with fail
  with_reducible refine HA.out.mono ?_
  rintro e w1 ⟨rfl, rfl⟩
  go_wp2_with fail
  refine HW.out.mono ?_
  rintro e w1 ⟨rfl, hbe⟩
  have HB := Lib.hid hbe
  clear hbe
  go_wp2
  go_end0
  exact ⟨rfl, HB.out⟩

set_option maxHeartbeats 400000 in
theorem lfirst_any (w : World) (k : Nat) (hk : k < 22) :
    Calls Tryz.prog 111 #[.int .i64 (k : Int)] w fun e w' => e = .returned (.int .i64 (8 + 8 * (k : Int))) ∧ w = w' := by
  go_enter Tryz.func111, Tryz.ntmps111
  go_wp2
  go_ret
  exact ⟨rfl, rfl⟩

set_option maxHeartbeats 400000 in
theorem lbit_any (w : World) (k : Nat) (hk : k < 22) :
    Calls Tryz.prog 125 #[.int .i64 (k : Int)] w fun e w' => e = .returned (.int .u64 ((2 ^ k : Nat) : Int)) ∧ w = w' := by
  have HP := Lib.hid (pow22 k hk)
  go_enter Tryz.func125, Tryz.ntmps125
  go_wp2
  go_ret
  refine ⟨ru64_eq ?_, rfl⟩
  have hq := HP.out
  have e : (2 : Int) ^ k = ((2 ^ k : Nat) : Int) := by rw [Int.natCast_pow]; rfl
  rw [IntKind.wrap_u64, e]
  clear e HP
  generalize 2 ^ k = q at hq
  omega
end
end Go.Proofs.YtbemaoncakcnjaaGreat

/- The program's lists (layer 9): the class of a free block, members, a class's bit. -/
namespace Go.Proofs.YtbemaoncakcnjaaGreat
open Go.RowKit

section
variable {w : World} {g base cap c : Nat} {A : Option Addr} {bs : List UInt8}
set_option maxHeartbeats 1000000 in
theorem lfree_no (h : Ar w 92 g base cap A c bs) (hb : base ≤ 4611686018427387904) (hl : bs.length ≤ 16384) (o : Int) (ho : -9223372036854775808 ≤ o ∧ o ≤ 9223372036854775807) (hk : freeI bs o < 0) :
    Calls Tryz.prog 118 #[.pointer (some ⟨g, 0, none⟩), .int .i64 o] w fun e w' => e = .returned (.tuple #[.int .i64 0, .bool false]) ∧ Below w.heap.size w w' := by
  cases hg : getB bs o with
  | none =>
    have hG := getC w g base cap c A bs o _ h hb hl ho hg
    dsimp only [BlkTold, bkV, Option.isSome, errV] at hG
    have HG := Lib.hid hG
    clear hG h hk hg
    go_enter Tryz.func118, Tryz.ntmps118
    go_wp2_with fail
    with_reducible refine HG.out.mono ?_
    rintro e w1 ⟨rfl, hb⟩
    go_wp2
    go_ret2
    exact ⟨rfl, hb.alloc hb.size _⟩
  | some x =>
    obtain ⟨xo, xs, xu⟩ := x
    have hG := getC w g base cap c A bs o _ h hb hl ho hg
    dsimp only [BlkTold, bkV, Bk.val, Option.isSome, errV] at hG
    have q3 := (getB_some hg).2.2.2.2.1
    dsimp only at q3
    have q := (isSz_iff _).1 q3
    cases xu with
    | true =>
      have HG := Lib.hid hG
      clear hG h hk hg q3
      go_enter Tryz.func118, Tryz.ntmps118
      go_wp2_with fail
      with_reducible refine HG.out.mono ?_
      rintro e w1 ⟨rfl, hb⟩
      go_wp2
      go_ret2
      exact ⟨rfl, hb.alloc hb.size _⟩
    | false =>
      obtain ⟨d, hd, _⟩ := class_nat (x := ⟨xo, xs, false⟩) q3
      dsimp only at hd
      unfold freeI at hk
      rw [hg] at hk
      dsimp only at hk
      rw [hd] at hk
      simp at hk
      omega

set_option maxRecDepth 100000 in
set_option maxHeartbeats 1000000 in
theorem lfree_yes (h : Ar w 92 g base cap A c bs) (hb : base ≤ 4611686018427387904) (hl : bs.length ≤ 16384) (o : Int) (ho : -9223372036854775808 ≤ o ∧ o ≤ 9223372036854775807) (k : Nat) (hk : freeI bs o = (k : Int)) :
    Calls Tryz.prog 118 #[.pointer (some ⟨g, 0, none⟩), .int .i64 o] w fun e w' => e = .returned (.tuple #[.int .i64 (k : Int), .bool true]) ∧ Below w.heap.size w w' := by
  cases hg : getB bs o with
  | none => unfold freeI at hk; rw [hg] at hk; dsimp only at hk; omega
  | some x =>
    obtain ⟨xo, xs, xu⟩ := x
    have hG := getC w g base cap c A bs o _ h hb hl ho hg
    dsimp only [BlkTold, bkV, Bk.val, Option.isSome, errV] at hG
    have q := (isSz_iff _).1 (getB_some hg).2.2.2.2.1
    dsimp only at q
    cases xu with
    | true => unfold freeI at hk; rw [hg] at hk; simp at hk
    | false =>
      have hk' : classI (xs : Int) = (k : Int) := by rw [← hk]; unfold freeI; rw [hg]; rfl
      have HC := Lib.hid (fun w => classC w (xs : Int) (by omega))
      rw [hk'] at HC
      have HG := Lib.hid hG
      clear hG h hk hg hk'
      go_enter Tryz.func118, Tryz.ntmps118
      go_wp2_with fail
      with_reducible refine HG.out.mono ?_
      rintro e w1 ⟨rfl, hb⟩
      go_wp2_with fail
      with_reducible refine (HC.out _).mono ?_
      rintro e w2 ⟨rfl, hb2⟩
      have hb3 := hb.alloc hb.size (.cells #[.int .i64 (xo : Int), .int .i64 (xs : Int), .bool false] 51)
      have HB := Lib.hid (hb3.trans (hb2.mono hb3.size))
      clear hb hb2 hb3
      go_wp2
      go_ret2
      exact ⟨rfl, HB.out⟩

set_option maxHeartbeats 1000000 in
theorem lmember_any (h : Ar w 92 g base cap A c bs) (hb : base ≤ 4611686018427387904) (hl : bs.length ≤ 16384) (k p : Nat) (hk : k < 22) (hp : p < 18446744073709551616) (b : Bool) (hm : memberB bs p (k : Int) = b) :
    Calls Tryz.prog 119 #[.pointer (some ⟨g, 0, none⟩), .int .i64 (k : Int), .int .u64 (p : Int)] w fun e w' => e = .returned (.bool b) ∧ Below w.heap.size w w' := by
  have HL := Lib.hid (len_any h)
  by_cases h0 : bs.length ≤ p
  · obtain rfl : false = b := by
      rw [← hm]
      cases hq : memberB bs p (k : Int) with
      | true => have := memberB_in hq; omega
      | false => rfl
    clear hm h
    go_enter Tryz.func119, Tryz.ntmps119
    go_wp2_with fail
    with_reducible refine HL.out.mono ?_
    rintro e w1 ⟨rfl, rfl⟩
    go_wp2
    go_ret
    exact ⟨rfl, Below.refl _ _⟩
  · have h1 : p < bs.length := by omega
    rw [memberB_free, decide_eq_true (by omega), Bool.true_and] at hm
    rcases freeI_cases bs (p : Int) with hf | ⟨j, hf⟩
    · obtain rfl : false = b := by rw [← hm]; exact (beq_eq_false_iff_ne.2 (by omega)).symm
      have HF := Lib.hid (lfree_no h hb hl (p : Int) (by omega) hf)
      clear hm h hf
      go_enter Tryz.func119, Tryz.ntmps119
      go_wp2_with fail
      with_reducible refine HL.out.mono ?_
      rintro e w1 ⟨rfl, rfl⟩
      go_wp2_with fail
      with_reducible refine HF.out.mono ?_
      rintro e w1 ⟨rfl, hb1⟩
      have HB := Lib.hid hb1
      clear hb1
      go_wp2
      go_ret
      exact ⟨rfl, HB.out⟩
    · have HF := Lib.hid (lfree_yes h hb hl (p : Int) (by omega) j hf)
      rw [hf] at hm
      have HM := Lib.hid hm
      have hj := (freeI_in hf).2.2
      clear hm h hf
      go_enter Tryz.func119, Tryz.ntmps119
      go_wp2_with fail
      with_reducible refine HL.out.mono ?_
      rintro e w1 ⟨rfl, rfl⟩
      go_wp2_with fail
      with_reducible refine HF.out.mono ?_
      rintro e w1 ⟨rfl, hb1⟩
      have HB := Lib.hid hb1
      clear hb1
      go_wp2
      go_ret
      exact ⟨rt_b HM.out, HB.out⟩

set_option maxHeartbeats 1000000 in
theorem lhas_any (h : Ar w 92 g base cap A c bs) (hb : base ≤ 4611686018427387904) (hl : bs.length ≤ 16384) (k p q u : Nat) (hk : k < 22) (hp : p < 18446744073709551616) (hq : q ≤ 16) (b : Bool) (hm : memHas bs k p q u = b) :
    Calls Tryz.prog 113 #[.pointer (some ⟨g, 0, none⟩), .int .i64 (k : Int), .int .u64 (p : Int), .int .i64 (q : Int), .int .u64 (u : Int)] w fun e w' => e = .returned (.bool b) ∧ Below w.heap.size w w' := by
  unfold memHas at hm
  cases hmb : memberB bs p (k : Int) with
  | false =>
    rw [hmb] at hm
    obtain rfl : false = b := hm
    have HM := Lib.hid (lmember_any h hb hl k p hk hp false hmb)
    clear hmb h
    go_enter Tryz.func113, Tryz.ntmps113
    go_wp2_with fail
    with_reducible refine HM.out.mono ?_
    rintro e w1 ⟨rfl, hb1⟩
    have HB := Lib.hid hb1
    clear hb1
    go_wp2
    go_ret
    exact ⟨rfl, HB.out⟩
  | true =>
    have hin := memberB_in hmb
    obtain ⟨v, hv⟩ : ∃ v, wordN bs (p + q) = v := ⟨_, rfl⟩
    have hvl : v < 18446744073709551616 := by rw [← hv]; exact wordN_lt _ _
    rw [hmb, hv, Bool.true_and] at hm
    have hm2 : ((v : Int) == (u : Int)) = b := by rw [← hm, Bool.eq_iff_iff, beq_iff_eq, beq_iff_eq]; omega
    have HM := Lib.hid (lmember_any h hb hl k p hk hp true hmb)
    have HN := Lib.hid (fun w1 (hb1 : Below w.heap.size w w1) => lnumber_any (h.below hb1) hb hl ((p : Int) + (q : Int)) (p + q) (by omega) (by omega) v hv)
    have HV := Lib.hid hm2
    clear hmb h hm hm2 hv
    go_enter Tryz.func113, Tryz.ntmps113
    go_wp2_with fail
    with_reducible refine HM.out.mono ?_
    rintro e w1 ⟨rfl, hb1⟩
    have HB := Lib.hid hb1
    clear hb1
    go_wp2_with fail
    refine (HN.out _ HB.out).mono ?_
    rintro e w2 ⟨rfl, rfl⟩
    go_wp2
    go_ret
    exact ⟨rt_b HV.out, HB.out⟩

set_option maxHeartbeats 1000000 in
theorem lhasbit_any (h : Ar w 92 g base cap A c bs) (hb : base ≤ 4611686018427387904) (hl : bs.length ≤ 16384) (hl2 : 184 ≤ bs.length) (k : Nat) (hk : k < 22) (b : Bool) (hm : bitN (wordN bs 0) k = b) :
    Calls Tryz.prog 112 #[.pointer (some ⟨g, 0, none⟩), .int .i64 (k : Int)] w fun e w' => e = .returned (.bool b) ∧ w = w' := by
  obtain ⟨v, hv⟩ : ∃ v, wordN bs 0 = v := ⟨_, rfl⟩
  have hvl : v < 18446744073709551616 := by rw [← hv]; exact wordN_lt _ _
  have HN := Lib.hid (lnumber_any h hb hl 0 0 rfl (by omega) v hv)
  rw [hv] at hm
  have HV := Lib.hid ((and_bit v k hvl hk).trans hm)
  have HT := Lib.hid (lbit_any w k hk)
  obtain ⟨m, hm2⟩ : ∃ m, 2 ^ k = m := ⟨_, rfl⟩
  have hml : m ≤ 2097152 := by rw [← hm2]; exact pow22 k hk
  rw [hm2] at HV HT
  clear hm hv h hm2
  go_enter Tryz.func112, Tryz.ntmps112
  go_wp2_with fail
  with_reducible refine HN.out.mono ?_
  rintro e w1 ⟨rfl, rfl⟩
  go_wp2_with fail
  with_reducible refine HT.out.mono ?_
  rintro e w1 ⟨rfl, rfl⟩
  go_wp2
  go_ret
  exact ⟨rt_b HV.out, rfl⟩
end
end Go.Proofs.YtbemaoncakcnjaaGreat

/- The contract of the program's Put. -/
namespace Go.Proofs.YtbemaoncakcnjaaGreat
open Go.RowKit

section
variable {w w1 : World} {g base cap c : Nat} {A : Option Addr} {bs b1 : List UInt8}
theorem became_of (h : Ar w 92 g base cap A c bs) (hb : Below w.heap.size w w1) : Became 92 g base cap A bs w w1 := ⟨A, c, h.below hb, Tch.of_below hb, .inl rfl⟩
theorem became_set (h : Became 92 g base cap A b1 w w1) (hb : base ≤ 4611686018427387904) (hl : b1.length ≤ 16384) (o : Int) (p : Nat) (hp : o = (p : Int)) (ho : p + 8 ≤ b1.length) (v : Nat) (hv : v < 18446744073709551616) :
    Calls Tryz.prog 120 #[.pointer (some ⟨g, 0, none⟩), .int .i64 o, .int .u64 (v : Int)] w1 fun e w2 => e = .returned (.tuple #[]) ∧ Became 92 g base cap A (lyN b1 p v) w w2 :=
  step_became h fun _ _ a => lset_any a hb hl o p hp ho v hv
theorem became_num (h : Became 92 g base cap A b1 w w1) (hb : base ≤ 4611686018427387904) (hl : b1.length ≤ 16384) (o : Int) (p : Nat) (hp : o = (p : Int)) (ho : p + 8 ≤ b1.length) (v : Nat) (hv : wordN b1 p = v) :
    Calls Tryz.prog 110 #[.pointer (some ⟨g, 0, none⟩), .int .i64 o] w1 fun e w2 => e = .returned (.int .u64 (v : Int)) ∧ w1 = w2 := by
  obtain ⟨_, _, a, _, _⟩ := h
  exact lnumber_any a hb hl o p hp ho v hv

set_option maxRecDepth 100000 in
set_option maxHeartbeats 1000000 in
theorem lsetfirst_no (h : Ar w 92 g base cap A c bs) (hb : base ≤ 4611686018427387904) (n : Nat) (hn : bs.length = n) (hl : n ≤ 16384) (hl2 : 184 ≤ n) (k : Nat) (hk : k < 22) :
    Calls Tryz.prog 121 #[.pointer (some ⟨g, 0, none⟩), .int .i64 (k : Int), .int .u64 0] w fun e w' => e = .returned (.tuple #[]) ∧ Became 92 g base cap A (markB (lyN bs (8 + 8 * k) 0) k) w w' := by
  obtain ⟨b1, hb1⟩ : ∃ b1, lyN bs (8 + 8 * k) 0 = b1 := ⟨_, rfl⟩
  have hbl : b1.length = n := by rw [← hb1, lyN_length _ _ _ (by omega)]; exact hn
  have hw1 : wordN b1 (8 + 8 * k) = 0 := by rw [← hb1]; exact wordN_same _ _ _ (by omega) (by omega)
  obtain ⟨v0, hv0⟩ : ∃ v0, wordN b1 0 = v0 := ⟨_, rfl⟩
  have hvl : v0 < 18446744073709551616 := by rw [← hv0]; exact wordN_lt _ _
  obtain ⟨m, hm⟩ : ∃ m, 2 ^ k = m := ⟨_, rfl⟩
  have hml : m ≤ 2097152 := by rw [← hm]; exact pow22 k hk
  obtain ⟨x, hx⟩ : ∃ x, bitTo v0 k false = x := ⟨_, rfl⟩
  have hxl : x < 18446744073709551616 := by rw [← hx]; exact bitTo_lt v0 k hk hvl false
  have hand : bits .andNot .u64 (v0 : Int) (m : Int) = (x : Int) := by rw [← hm, ← hx]; exact andnot_bit v0 k hvl hk
  have hmk : markB b1 k = lyN b1 0 x := by rw [markB_eq b1 k (by omega), hw1, hv0]; simpa using congrArg (lyN b1 0) hx
  have HS1 := lset_any h hb (by omega) (8 + 8 * (k : Int)) (8 + 8 * k) (by omega) (by omega) 0 (by omega)
  rw [hb1] at HS1 ⊢
  rw [hmk]
  have HS1 := Lib.hid HS1
  have HF := Lib.hid (lfirst_any w k hk)
  have HT := fun W => lbit_any W k hk
  rw [hm] at HT
  have HT := Lib.hid HT
  have HN := Lib.hid (fun W (hB : Became 92 g base cap A b1 w W) => became_num hB hb (by omega) 0 0 rfl (by omega) v0 hv0)
  have HS2 := Lib.hid (fun W (hB : Became 92 g base cap A b1 w W) => became_set hB hb (by omega) 0 0 rfl (by omega) x hxl)
  clear h hb1 hw1 hv0 hm hx hmk hn hbl
  go_enter Tryz.func121, Tryz.ntmps121
  go_wp2_with fail
  with_reducible refine HF.out.mono ?_
  rintro e w2 ⟨rfl, rfl⟩
  go_wp2_with fail
  refine HS1.out.mono ?_
  rintro e w2 ⟨rfl, be1⟩
  have B1 := Lib.hid be1
  clear be1
  go_wp2_with fail
  refine (HN.out _ B1.out).mono ?_
  rintro e w3 ⟨rfl, rfl⟩
  go_wp2_with fail
  with_reducible refine (HT.out _).mono ?_
  rintro e w3 ⟨rfl, rfl⟩
  go_wp2_with fail
  refine (HS2.out _ B1.out).mono ?_
  rintro e w3 ⟨rfl, be2⟩
  have B2 := Lib.hid be2
  clear be2
  go_wp2
  go_end0
  exact ⟨rfl, B2.out⟩

set_option maxRecDepth 100000 in
set_option maxHeartbeats 1000000 in
theorem lsetfirst_yes (h : Ar w 92 g base cap A c bs) (hb : base ≤ 4611686018427387904) (n : Nat) (hn : bs.length = n) (hl : n ≤ 16384) (hl2 : 184 ≤ n) (k : Nat) (hk : k < 22) (v : Nat) (hv : v < 18446744073709551616) (hv0 : v ≠ 0) :
    Calls Tryz.prog 121 #[.pointer (some ⟨g, 0, none⟩), .int .i64 (k : Int), .int .u64 (v : Int)] w fun e w' => e = .returned (.tuple #[]) ∧ Became 92 g base cap A (markB (lyN bs (8 + 8 * k) v) k) w w' := by
  obtain ⟨b1, hb1⟩ : ∃ b1, lyN bs (8 + 8 * k) v = b1 := ⟨_, rfl⟩
  have hbl : b1.length = n := by rw [← hb1, lyN_length _ _ _ (by omega)]; exact hn
  have hw1 : wordN b1 (8 + 8 * k) = v := by rw [← hb1]; exact wordN_same _ _ _ (by omega) (by omega)
  obtain ⟨v1, hv1⟩ : ∃ v1, wordN b1 0 = v1 := ⟨_, rfl⟩
  have hvl : v1 < 18446744073709551616 := by rw [← hv1]; exact wordN_lt _ _
  obtain ⟨m, hm⟩ : ∃ m, 2 ^ k = m := ⟨_, rfl⟩
  have hml : m ≤ 2097152 := by rw [← hm]; exact pow22 k hk
  obtain ⟨x, hx⟩ : ∃ x, bitTo v1 k false = x := ⟨_, rfl⟩
  obtain ⟨y, hy⟩ : ∃ y, bitTo v1 k true = y := ⟨_, rfl⟩
  have hxl : x < 18446744073709551616 := by rw [← hx]; exact bitTo_lt v1 k hk hvl false
  have hyl : y < 18446744073709551616 := by rw [← hy]; exact bitTo_lt v1 k hk hvl true
  have hand : bits .andNot .u64 (v1 : Int) (m : Int) = (x : Int) := by rw [← hm, ← hx]; exact andnot_bit v1 k hvl hk
  have hor : bits .or .u64 (x : Int) (m : Int) = (y : Int) := by
    rw [← hy, bitTo_on, hx, ← hm]
    exact or_bit x k hxl hk (by rw [← hx]; exact bitTo_off v1 k)
  have hmk : markB b1 k = lyN b1 0 y := by rw [markB_eq b1 k (by omega), hw1, hv1, decide_eq_true hv0, hy]
  have hne : ((v : Int) != 0) = true := by rw [bne_iff_ne]; omega
  have HS1 := lset_any h hb (by omega) (8 + 8 * (k : Int)) (8 + 8 * k) (by omega) (by omega) v hv
  rw [hb1] at HS1 ⊢
  rw [hmk]
  have HS1 := Lib.hid HS1
  have HF := Lib.hid (lfirst_any w k hk)
  have HT := fun W => lbit_any W k hk
  rw [hm] at HT
  have HT := Lib.hid HT
  have HN := Lib.hid (fun W (hB : Became 92 g base cap A b1 w W) => became_num hB hb (by omega) 0 0 rfl (by omega) v1 hv1)
  have HS2 := Lib.hid (fun W (hB : Became 92 g base cap A b1 w W) => became_set hB hb (by omega) 0 0 rfl (by omega) y hyl)
  clear h hb1 hw1 hv1 hm hx hy hmk hn hbl
  go_enter Tryz.func121, Tryz.ntmps121
  go_wp2_with fail
  with_reducible refine HF.out.mono ?_
  rintro e w2 ⟨rfl, rfl⟩
  go_wp2_with fail
  refine HS1.out.mono ?_
  rintro e w2 ⟨rfl, be1⟩
  have B1 := Lib.hid be1
  clear be1
  go_wp2_with fail
  refine (HN.out _ B1.out).mono ?_
  rintro e w3 ⟨rfl, rfl⟩
  go_wp2_with fail
  with_reducible refine (HT.out _).mono ?_
  rintro e w3 ⟨rfl, rfl⟩
  go_wp2_with fail
  with_reducible refine (HT.out _).mono ?_
  rintro e w3 ⟨rfl, rfl⟩
  go_wp2_with fail
  refine (HS2.out _ B1.out).mono ?_
  rintro e w3 ⟨rfl, be2⟩
  have B2 := Lib.hid be2
  clear be2
  go_wp2
  go_end0
  exact ⟨rfl, B2.out⟩

theorem became_first (h : Became 92 g base cap A b1 w w1) (hb : base ≤ 4611686018427387904) (n : Nat) (hn : b1.length = n) (hl : n ≤ 16384) (hl2 : 184 ≤ n) (k : Nat) (hk : k < 22) (v : Nat) (hv : v < 18446744073709551616) :
    Calls Tryz.prog 121 #[.pointer (some ⟨g, 0, none⟩), .int .i64 (k : Int), .int .u64 (v : Int)] w1 fun e w2 => e = .returned (.tuple #[]) ∧ Became 92 g base cap A (markB (lyN b1 (8 + 8 * k) v) k) w w2 := by
  refine step_became h fun _ _ a => ?_
  by_cases h0 : v = 0
  · subst h0
    exact lsetfirst_no a hb n hn hl hl2 k hk
  · exact lsetfirst_yes a hb n hn hl hl2 k hk v hv h0
end
end Go.Proofs.YtbemaoncakcnjaaGreat

/- The contract of the program's Put (genlst.py). -/
namespace Go.Proofs.YtbemaoncakcnjaaGreat
open Go.RowKit

section
variable {w : World} {g base cap c : Nat} {A : Option Addr} {bs : List UInt8}
set_option maxRecDepth 100000 in
set_option maxHeartbeats 2000000 in
theorem lput_no (h : Ar w 92 g base cap A c bs) (hb : base ≤ 4611686018427387904) (n : Nat) (hn : bs.length = n) (hl : n ≤ 16384) (o : Int) (ho : -9223372036854775808 ≤ o ∧ o ≤ 9223372036854775807) (hk : freeI bs o < 0) :
    Calls Tryz.prog 100 #[.pointer (some ⟨g, 0, none⟩), .int .i64 o] w fun e w' => e = .returned (errV false 3) ∧ Below w.heap.size w w' := by
  have HF := Lib.hid (lfree_no h hb (by omega) o ho hk)
  clear h hk hn
  go_enter Tryz.func100, Tryz.ntmps100
  go_wp2_with fail
  with_reducible refine HF.out.mono ?_
  rintro e w1 ⟨rfl, hb1⟩
  have HB := Lib.hid hb1
  clear hb1
  go_wp2
  go_ret
  exact ⟨rfl, HB.out⟩

set_option maxRecDepth 100000 in
set_option maxHeartbeats 2000000 in
theorem lput_same (h : Ar w 92 g base cap A c bs) (hb : base ≤ 4611686018427387904) (n : Nat) (hn : bs.length = n) (hl : n ≤ 16384) (p k f : Nat) (hk : freeI bs (p : Int) = (k : Int)) (hf : wordN bs (8 + 8 * k) = f) (hfp : f = p) :
    Calls Tryz.prog 100 #[.pointer (some ⟨g, 0, none⟩), .int .i64 (p : Int)] w fun e w' => e = .returned (errV false 3) ∧ Below w.heap.size w w' := by
  obtain ⟨p184, p32, k22⟩ := freeI_in hk
  have hfl : f < 18446744073709551616 := by rw [← hf]; exact wordN_lt _ _
  have HF := Lib.hid (lfree_yes h hb (by omega) (p : Int) (by omega) k hk)
  have HFA := Lib.hid (fun W => lfirst_any W k k22)
  have HNF := Lib.hid (fun W (hB : Below w.heap.size w W) => lnumber_any (h.below hB) hb (by omega) (8 + 8 * (k : Int)) (8 + 8 * k) (by omega) (by omega) f hf)
  have hp2 : p + 32 ≤ n := by omega
  have hp3 : 184 ≤ p := by omega
  have s1 : ((f : Int) == (p : Int)) = true := by rw [beq_iff_eq]; omega
  clear h hk hf hn hfp
  go_enter Tryz.func100, Tryz.ntmps100
  go_wp2_with fail
  with_reducible refine HF.out.mono ?_
  rintro e w1 ⟨rfl, hb1⟩
  have HB := Lib.hid hb1
  clear hb1 HF
  go_wp2_with fail
  refine (HFA.out _).mono ?_
  rintro e w9 ⟨rfl, rfl⟩
  go_wp2_with fail
  refine (HNF.out _ HB.out).mono ?_
  rintro e w9 ⟨rfl, rfl⟩
  clear HFA HNF
  go_wp2
  go_ret
  exact ⟨rfl, HB.out⟩

set_option maxRecDepth 100000 in
set_option maxHeartbeats 2000000 in
theorem lput_other (h : Ar w 92 g base cap A c bs) (hb : base ≤ 4611686018427387904) (n : Nat) (hn : bs.length = n) (hl : n ≤ 16384) (p k f : Nat) (hk : freeI bs (p : Int) = (k : Int)) (hf : wordN bs (8 + 8 * k) = f) (hfp : f ≠ p) (hf0 : f ≠ 0) (hm : memberB bs f (k : Int) = false) :
    Calls Tryz.prog 100 #[.pointer (some ⟨g, 0, none⟩), .int .i64 (p : Int)] w fun e w' => e = .returned (errV false 3) ∧ Below w.heap.size w w' := by
  obtain ⟨p184, p32, k22⟩ := freeI_in hk
  have hfl : f < 18446744073709551616 := by rw [← hf]; exact wordN_lt _ _
  have HF := Lib.hid (lfree_yes h hb (by omega) (p : Int) (by omega) k hk)
  have HFA := Lib.hid (fun W => lfirst_any W k k22)
  have HNF := Lib.hid (fun W (hB : Below w.heap.size w W) => lnumber_any (h.below hB) hb (by omega) (8 + 8 * (k : Int)) (8 + 8 * k) (by omega) (by omega) f hf)
  have hp2 : p + 32 ≤ n := by omega
  have hp3 : 184 ≤ p := by omega
  have HM := Lib.hid (fun W (hB : Below w.heap.size w W) => lmember_any (h.below hB) hb (by omega) k f k22 hfl _ hm)
  have s1 : ((f : Int) == (p : Int)) = false := by rw [beq_eq_false_iff_ne]; omega
  have s2 : ((f : Int) != 0) = true := by rw [bne_iff_ne]; omega
  clear h hk hf hn hm
  go_enter Tryz.func100, Tryz.ntmps100
  go_wp2_with fail
  with_reducible refine HF.out.mono ?_
  rintro e w1 ⟨rfl, hb1⟩
  have HB := Lib.hid hb1
  clear hb1 HF
  go_wp2_with fail
  refine (HFA.out _).mono ?_
  rintro e w9 ⟨rfl, rfl⟩
  go_wp2_with fail
  refine (HNF.out _ HB.out).mono ?_
  rintro e w9 ⟨rfl, rfl⟩
  clear HFA HNF
  go_wp2_with fail
  refine (HM.out _ HB.out).mono ?_
  rintro e w2 ⟨rfl, hb2⟩
  have HB2 := Lib.hid (HB.out.trans (hb2.mono HB.out.size))
  clear hb2 HM HB
  go_wp2
  go_ret
  exact ⟨rfl, HB2.out⟩

set_option maxRecDepth 100000 in
set_option maxHeartbeats 2000000 in
theorem lput_empty (h : Ar w 92 g base cap A c bs) (hb : base ≤ 4611686018427387904) (n : Nat) (hn : bs.length = n) (hl : n ≤ 16384) (p k f : Nat) (hk : freeI bs (p : Int) = (k : Int)) (hf : wordN bs (8 + 8 * k) = f) (hf0 : f = 0) :
    Calls Tryz.prog 100 #[.pointer (some ⟨g, 0, none⟩), .int .i64 (p : Int)] w fun e w' => e = .returned (errV true 3) ∧ Became 92 g base cap A (markB (lyN (lyN (lyN bs (p + 8) f) (p + 16) 0) (8 + 8 * k) p) k) w w' := by
  obtain ⟨p184, p32, k22⟩ := freeI_in hk
  have hfl : f < 18446744073709551616 := by rw [← hf]; exact wordN_lt _ _
  have HF := Lib.hid (lfree_yes h hb (by omega) (p : Int) (by omega) k hk)
  have HFA := Lib.hid (fun W => lfirst_any W k k22)
  have HNF := Lib.hid (fun W (hB : Below w.heap.size w W) => lnumber_any (h.below hB) hb (by omega) (8 + 8 * (k : Int)) (8 + 8 * k) (by omega) (by omega) f hf)
  have hp2 : p + 32 ≤ n := by omega
  have hp3 : 184 ≤ p := by omega
  have s1 : ((f : Int) == (p : Int)) = false := by rw [beq_eq_false_iff_ne]; omega
  have s2 : ((f : Int) != 0) = false := by subst hf0; rfl
  have HBO := Lib.hid (fun W (hB : Below w.heap.size w W) => became_of h hB)
  obtain ⟨b1, hb1⟩ : ∃ b, lyN bs (p + 8) f = b := ⟨_, rfl⟩
  have nb1 : b1.length = n := by rw [← hb1, lyN_length _ _ _ (by omega)]; exact hn
  have HS1 := fun W (hB : Became 92 g base cap A bs w W) => became_set hB hb (by omega) ((p : Int) + 8) (p + 8) (by omega) (by omega) f hfl
  rw [hb1] at HS1 ⊢
  have HS1 := Lib.hid HS1
  obtain ⟨b2, hb2⟩ : ∃ b, lyN b1 (p + 16) 0 = b := ⟨_, rfl⟩
  have nb2 : b2.length = n := by rw [← hb2, lyN_length _ _ _ (by omega)]; exact nb1
  have HS2 := fun W (hB : Became 92 g base cap A b1 w W) => became_set hB hb (by omega) ((p : Int) + 16) (p + 16) (by omega) (by omega) 0 (by omega)
  rw [hb2] at HS2 ⊢
  have HS2 := Lib.hid HS2
  have HSF := Lib.hid (fun W (hB : Became 92 g base cap A b2 w W) => became_first hB hb n nb2 hl (by omega) k k22 p (by omega))
  clear hb1 nb1 hb2 nb2
  clear h hk hf hn hf0
  go_enter Tryz.func100, Tryz.ntmps100
  go_wp2_with fail
  with_reducible refine HF.out.mono ?_
  rintro e w1 ⟨rfl, hb1⟩
  have HB := Lib.hid hb1
  clear hb1 HF
  go_wp2_with fail
  refine (HFA.out _).mono ?_
  rintro e w9 ⟨rfl, rfl⟩
  go_wp2_with fail
  refine (HNF.out _ HB.out).mono ?_
  rintro e w9 ⟨rfl, rfl⟩
  clear HFA HNF
  have G0 := Lib.hid (HBO.out _ HB.out)
  clear HBO HB
  go_wp2_with fail
  refine (HS1.out _ G0.out).mono ?_
  rintro e x1 ⟨rfl, bb⟩
  have G1 := Lib.hid bb
  clear bb HS1 G0
  go_wp2_with fail
  refine (HS2.out _ G1.out).mono ?_
  rintro e x2 ⟨rfl, bb⟩
  have G2 := Lib.hid bb
  clear bb HS2 G1
  go_wp2_with fail
  refine (HSF.out _ G2.out).mono ?_
  rintro e x9 ⟨rfl, bb⟩
  have G9 := Lib.hid bb
  clear bb HSF G2
  go_wp2
  go_ret
  exact ⟨rfl, G9.out⟩

set_option maxRecDepth 100000 in
set_option maxHeartbeats 2000000 in
theorem lput_member (h : Ar w 92 g base cap A c bs) (hb : base ≤ 4611686018427387904) (n : Nat) (hn : bs.length = n) (hl : n ≤ 16384) (p k f : Nat) (hk : freeI bs (p : Int) = (k : Int)) (hf : wordN bs (8 + 8 * k) = f) (hfp : f ≠ p) (hf0 : f ≠ 0) (hm : memberB bs f (k : Int) = true) :
    Calls Tryz.prog 100 #[.pointer (some ⟨g, 0, none⟩), .int .i64 (p : Int)] w fun e w' => e = .returned (errV true 3) ∧ Became 92 g base cap A (markB (lyN (lyN (lyN (lyN bs (p + 8) f) (p + 16) 0) (f + 16) p) (8 + 8 * k) p) k) w w' := by
  obtain ⟨p184, p32, k22⟩ := freeI_in hk
  have hfl : f < 18446744073709551616 := by rw [← hf]; exact wordN_lt _ _
  have HF := Lib.hid (lfree_yes h hb (by omega) (p : Int) (by omega) k hk)
  have HFA := Lib.hid (fun W => lfirst_any W k k22)
  have HNF := Lib.hid (fun W (hB : Below w.heap.size w W) => lnumber_any (h.below hB) hb (by omega) (8 + 8 * (k : Int)) (8 + 8 * k) (by omega) (by omega) f hf)
  have hp2 : p + 32 ≤ n := by omega
  have hp3 : 184 ≤ p := by omega
  have HM := Lib.hid (fun W (hB : Below w.heap.size w W) => lmember_any (h.below hB) hb (by omega) k f k22 hfl _ hm)
  have s1 : ((f : Int) == (p : Int)) = false := by rw [beq_eq_false_iff_ne]; omega
  have s2 : ((f : Int) != 0) = true := by rw [bne_iff_ne]; omega
  have hfin := memberB_in hm
  have hf16 : f + 16 + 8 ≤ n := by omega
  have hf1 : f ≤ 16384 := by omega
  have HBO := Lib.hid (fun W (hB : Below w.heap.size w W) => became_of h hB)
  obtain ⟨b1, hb1⟩ : ∃ b, lyN bs (p + 8) f = b := ⟨_, rfl⟩
  have nb1 : b1.length = n := by rw [← hb1, lyN_length _ _ _ (by omega)]; exact hn
  have HS1 := fun W (hB : Became 92 g base cap A bs w W) => became_set hB hb (by omega) ((p : Int) + 8) (p + 8) (by omega) (by omega) f hfl
  rw [hb1] at HS1 ⊢
  have HS1 := Lib.hid HS1
  obtain ⟨b2, hb2⟩ : ∃ b, lyN b1 (p + 16) 0 = b := ⟨_, rfl⟩
  have nb2 : b2.length = n := by rw [← hb2, lyN_length _ _ _ (by omega)]; exact nb1
  have HS2 := fun W (hB : Became 92 g base cap A b1 w W) => became_set hB hb (by omega) ((p : Int) + 16) (p + 16) (by omega) (by omega) 0 (by omega)
  rw [hb2] at HS2 ⊢
  have HS2 := Lib.hid HS2
  obtain ⟨b3, hb3⟩ : ∃ b, lyN b2 (f + 16) p = b := ⟨_, rfl⟩
  have nb3 : b3.length = n := by rw [← hb3, lyN_length _ _ _ (by omega)]; exact nb2
  have HS3 := fun W (hB : Became 92 g base cap A b2 w W) => became_set hB hb (by omega) ((f : Int) + 16) (f + 16) (by omega) (by omega) p (by omega)
  rw [hb3] at HS3 ⊢
  have HS3 := Lib.hid HS3
  have HSF := Lib.hid (fun W (hB : Became 92 g base cap A b3 w W) => became_first hB hb n nb3 hl (by omega) k k22 p (by omega))
  clear hb1 nb1 hb2 nb2 hb3 nb3
  clear h hk hf hn hm
  go_enter Tryz.func100, Tryz.ntmps100
  go_wp2_with fail
  with_reducible refine HF.out.mono ?_
  rintro e w1 ⟨rfl, hb1⟩
  have HB := Lib.hid hb1
  clear hb1 HF
  go_wp2_with fail
  refine (HFA.out _).mono ?_
  rintro e w9 ⟨rfl, rfl⟩
  go_wp2_with fail
  refine (HNF.out _ HB.out).mono ?_
  rintro e w9 ⟨rfl, rfl⟩
  clear HFA HNF
  go_wp2_with fail
  refine (HM.out _ HB.out).mono ?_
  rintro e w2 ⟨rfl, hb2⟩
  have HB2 := Lib.hid (HB.out.trans (hb2.mono HB.out.size))
  clear hb2 HM HB
  have G0 := Lib.hid (HBO.out _ HB2.out)
  clear HBO HB2
  go_wp2_with fail
  refine (HS1.out _ G0.out).mono ?_
  rintro e x1 ⟨rfl, bb⟩
  have G1 := Lib.hid bb
  clear bb HS1 G0
  go_wp2_with fail
  refine (HS2.out _ G1.out).mono ?_
  rintro e x2 ⟨rfl, bb⟩
  have G2 := Lib.hid bb
  clear bb HS2 G1
  go_wp2_with fail
  refine (HS3.out _ G2.out).mono ?_
  rintro e x3 ⟨rfl, bb⟩
  have G3 := Lib.hid bb
  clear bb HS3 G2
  go_wp2_with fail
  refine (HSF.out _ G3.out).mono ?_
  rintro e x9 ⟨rfl, bb⟩
  have G9 := Lib.hid bb
  clear bb HSF G3
  go_wp2
  go_ret
  exact ⟨rfl, G9.out⟩

end
theorem putC : PutC := by
  intro w g base cap c A bs o y h hb hl ho hy
  subst hy
  rcases freeI_cases bs o with hk | ⟨k, hk⟩
  · have e : putB bs o = none := by unfold putB; rw [if_pos hk]
    rw [e]
    exact lput_no h hb _ rfl hl o ho hk
  · obtain ⟨p184, p32, k22⟩ := freeI_in hk
    obtain ⟨p, rfl⟩ : ∃ p : Nat, o = (p : Int) := ⟨o.toNat, by omega⟩
    obtain ⟨f, hf⟩ : ∃ f, wordN bs (8 + 8 * k) = f := ⟨_, rfl⟩
    have e : putB bs (p : Int) = if (f : Int) = (p : Int) ∨ (f ≠ 0 ∧ memberB bs f (k : Int) = false) then none else some (markB (lyN (if f ≠ 0 then lyN (lyN (lyN bs (p + 8) f) (p + 16) 0) (f + 16) p else lyN (lyN bs (p + 8) f) (p + 16) 0) (8 + 8 * k) p) k) := by
      unfold putB
      rw [hk, if_neg (by omega)]
      simp only [Int.toNat_natCast, hf]
    rw [e]
    by_cases hfp : f = p
    · rw [if_pos (.inl (by omega))]
      exact lput_same h hb _ rfl hl p k f hk hf hfp
    · by_cases hf0 : f = 0
      · rw [if_neg (by omega), if_neg (by omega)]
        exact lput_empty h hb _ rfl hl p k f hk hf hf0
      · cases hm : memberB bs f (k : Int) with
        | false =>
          rw [if_pos (.inr ⟨hf0, rfl⟩)]
          exact lput_other h hb _ rfl hl p k f hk hf hfp hf0 hm
        | true =>
          rw [if_neg (fun h1 => h1.elim (fun h2 => hfp (by omega)) (fun h2 => by cases h2.2)), if_pos hf0]
          exact lput_member h hb _ rfl hl p k f hk hf hfp hf0 hm
end Go.Proofs.YtbemaoncakcnjaaGreat
