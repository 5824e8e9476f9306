/- Texts of mine, joined: Ref11, Spec7, St7, More, Plan, TailS, Clo. -/
import Derived.Laws.AppendOwnNone
import Derived.Test.YtbldlidpapdkbaaGreatM3

/- The contracts of the document's own check: in, Check. -/
namespace Go.Proofs.YtbldlidpapdkbaaGreat
open Go.RowKit

def nats (l : List Nat) : List Int := l.map fun n : Nat => (n : Int)
theorem own_ints {w : World} {base n : Nat} {t : TypeId} {A : Option Addr} {c : Nat} {l : List Nat} (h : w.ownsRow base t 1 (.slice A n c) n (l.map iV)) (hn : n = l.length) : IRd w w.heap.size A (nats l) := fun h0 => by
  have h0 : 0 < l.length := by simpa [nats] using h0
  rcases h.2 with ⟨_, h0'⟩ | ⟨g, _, _, h', _⟩
  · omega
  · injection h' with e
    subst e
    refine ⟨g, 0, rfl, (h.lt g rfl).2, fun j x hx => ?_⟩
    have hj : j < l.length := by
      rcases Nat.lt_or_ge j l.length with h | h
      · exact h
      · rw [nats, List.getElem?_map, List.getElem?_eq_none h] at hx; cases hx
    rw [Nat.zero_add, h.cellAt j (by omega), List.getElem?_map]
    rw [nats, List.getElem?_map] at hx
    cases hl : l[j]? with
    | none => rw [hl] at hx; cases hx
    | some y => rw [hl] at hx; injection hx with hx; rw [← hx]; rfl

theorem countP_take {α : Type} {p : α → Bool} {l : List α} {j : Nat} {x : α} (h : l[j]? = some x) : (l.take (j + 1)).countP p = (l.take j).countP p + if p x = true then 1 else 0 := by
  rw [List.take_add_one, h, List.countP_append]
  simp [List.countP_cons]
theorem any_take {α : Type} {p : α → Bool} {l : List α} {j : Nat} {x : α} (h : l[j]? = some x) : (l.take (j + 1)).any p = ((l.take j).any p || p x) := by
  rw [List.take_add_one, h, List.any_append]
  simp

section
variable (w : World)
set_option maxRecDepth 100000 in
set_option maxHeartbeats 2000000 in
theorem rin_any (A : Option Addr) (c B : Nat) (l : List Nat) (hr : IRd w B A (nats l)) (hl : l.length ≤ 140737488355328) (o : Nat) (k : Nat) (hk : l.count o = k) :
    Calls Tryz.prog 27 #[.slice A l.length c, .int .i64 (o : Int)] w fun e w' => e = .returned (.int .i64 (k : Int)) ∧ w = w' := by
  have HR := Lib.hid hr
  have HK := Lib.hid hk
  clear hr hk
  go_enter Tryz.func27, Tryz.ntmps27
  go_wp2
  go_loopw [5, 6] (fun q t wr => ∃ j k' : Nat, t = .int .i64 (j : Int) ∧ q = .int .i64 (k' : Int) ∧ j ≤ l.length ∧ (l.take j).countP (· == o) = k' ∧ w = wr) (fun _ t _ => l.length - (intOf t).toNat)
  case atStart => exact ⟨0, 0, rfl, rfl, Nat.zero_le _, rfl, rfl⟩
  case round =>
    obtain ⟨j, k', rfl, rfl, hj, hkk, rfl⟩ := hrel
    by_cases hlt : j < l.length
    · obtain ⟨x, hx⟩ : ∃ x, l[j]? = some x := ⟨l[j], List.getElem?_eq_getElem hlt⟩
      obtain ⟨b, a, rfl, _, hc⟩ := HR.out (by simp [nats]; omega)
      have p0 := hc j x (by rw [nats, List.getElem?_map, hx]; rfl)
      have hle : k' ≤ j := by rw [← hkk]; exact Nat.le_trans List.countP_le_length (by rw [List.length_take]; omega)
      have hnx := countP_take (p := (· == o)) hx
      rw [hkk] at hnx
      have HNX := Lib.hid hnx
      clear hc hx hkk hnx
      by_cases he : x = o
      · have e1 : ((x : Int) == (o : Int)) = true := by rw [he]; simp
        have HE := Lib.hid he
        clear he
        go_wp2
        go_roundw
        case rel => exact ⟨j + 1, k' + 1, by go_num, by go_num, by omega, by rw [HNX.out, if_pos (by rw [HE.out]; simp)], trivial⟩
        case measure => simp only [intOf]; omega
      · have e1 : ((x : Int) == (o : Int)) = false := by rw [beq_eq_false_iff_ne]; omega
        have HE := Lib.hid he
        clear he
        go_wp2
        go_roundw
        case rel => exact ⟨j + 1, k', by go_num, rfl, by omega, by rw [HNX.out, if_neg (by simpa using HE.out)]; rfl, trivial⟩
        case measure => simp only [intOf]; omega
    · have hf : k' = k := by
        rw [← HK.out, ← hkk, List.take_of_length_le (by omega)]; rfl
      have HF := Lib.hid hf
      clear hf hkk
      go_wp2
      go_ret
      exact ⟨pk_i (by rw [HF.out]), rfl⟩

set_option maxRecDepth 100000 in
set_option maxHeartbeats 4000000 in
theorem rcheck_any (A : Option Addr) (ca : Nat) (bs : List UInt8) (n : Nat) (hn : bs.length = n) (hr : Rd w w.heap.size A n bs) (hlc : n ≤ ca) (hl : n ≤ 100000) (x : Bool) (hx : checkB bs = x) :
    Calls Tryz.prog 8 #[.slice A n ca] w fun e w' => e = .returned (.bool x) ∧ Below w.heap.size w w' := by
  subst hn
  cases hw : walkB bs with
  | none =>
    obtain rfl : false = x := by rw [← hx]; unfold checkB; rw [hw]
    have hW := rwalkB_any w A ca w.heap.size bs hr (Nat.le_refl _) hlc hl none hw
    dsimp only [BksTold, Option.isSome, Option.getD] at hW
    have HW := Lib.hid hW
    clear hW hr hw hx
    go_enter Tryz.func8, Tryz.ntmps8
    go_wp2_with fail
    with_reducible refine HW.out.mono ?_
    rintro e w1 ⟨A', c', rfl, _, hb⟩
    go_wp2
    go_ret
    exact ⟨rfl, hb⟩
  | some l =>
    obtain ⟨v, hv⟩ : ∃ v, numO bs 0 = v := ⟨_, rfl⟩
    have hx' : (decide (v < 4194304) && (noAdj l && chkC bs l 22 0 (cntFree l))) = x := by rw [← hx]; unfold checkB; rw [hw, ← hv]
    have hW := rwalkB_any w A ca w.heap.size bs hr (Nat.le_refl _) hlc hl _ hw
    dsimp only [BksTold, Option.isSome, Option.getD] at hW
    have HW := Lib.hid hW
    have hll := walkB_len hw
    have HR := Lib.hid hr
    have HN := Lib.hid (fun (W : World) (hb : Below w.heap.size w W) => rnum_any W A ca w.heap.size bs (hr.below hb) hlc (by omega) 0 (by omega) v hv)
    by_cases hvv : 4194304 ≤ v
    · obtain rfl : false = x := by rw [← hx', decide_eq_false (by omega)]; rfl
      have e1 : decide (4194304 ≤ v) = true := decide_eq_true hvv
      have e2 : decide ((4194304 : Int) ≤ (v : Int)) = true := decide_eq_true (by omega)
      clear hW hr hw hx hx' hvv hv
      go_enter Tryz.func8, Tryz.ntmps8
      go_wp2_with fail
      with_reducible refine HW.out.mono ?_
      rintro e w1 ⟨A', c', rfl, _, hb⟩
      have HB := Lib.hid hb
      clear hb
      go_wp2_with fail
      refine (HN.out w1 HB.out).mono ?_
      rintro e w2 ⟨rfl, rfl⟩
      go_wp2
      go_ret
      exact ⟨rfl, HB.out⟩
    · have e1 : decide (4194304 ≤ v) = false := decide_eq_false hvv
      have e2 : decide ((4194304 : Int) ≤ (v : Int)) = false := decide_eq_false (by omega)
      have hx2 : (noAdj l && chkC bs l 22 0 (cntFree l)) = x := by rw [← hx', decide_eq_true (by omega), Bool.true_and]
      have HX := Lib.hid hx2
      obtain ⟨B0, hB0⟩ : ∃ B0, w.heap.size = B0 := ⟨_, rfl⟩
      have HB0 := Lib.hid hB0
      clear hW hr hw hx hx' hx2 hvv hv hB0
      go_enter Tryz.func8, Tryz.ntmps8
      go_wp2_with fail
      with_reducible refine HW.out.mono ?_
      rintro e w1 ⟨A3, c3, rfl, ho, hb⟩
      have HB1 : Hid (Below B0 w w1) := by rw [← HB0.out]; exact hb
      have HBN := Lib.hid hb
      have HBK := Lib.hid (own_bks ho rfl)
      have hB1 : B0 ≤ w1.heap.size := by have := hb.size; have := HB0.out; omega
      clear hb ho HW
      go_wp2_with fail
      refine (HN.out w1 HBN.out).mono ?_
      rintro e w2 ⟨rfl, rfl⟩
      clear HN HBN
      go_wp2
      go_loopw [5, 6] (fun f t wr => ∃ j k : Nat, t = .int .i64 (j : Int) ∧ f = .int .i64 (k : Int) ∧ j ≤ l.length ∧ (l.take j).countP (fun x => !x.used) = k ∧ (∀ i, i < j → pairOk l i = true) ∧ w1 = wr) (fun _ t _ => l.length - (intOf t).toNat)
      case atStart => exact ⟨0, 0, rfl, rfl, Nat.zero_le _, rfl, (fun i h => by omega), rfl⟩
      case round =>
        obtain ⟨j, k, rfl, rfl, hj, hk, hpa, rfl⟩ := hrel
        by_cases hlt : j < l.length
        · obtain ⟨y, hy⟩ : ∃ y, l[j]? = some y := ⟨l[j], List.getElem?_eq_getElem hlt⟩
          obtain ⟨b, a, rfl, _, hc⟩ := HBK.out (by omega)
          obtain ⟨_, _, p2⟩ := hc j y hy
          have hkj : k ≤ j := by rw [← hk]; exact Nat.le_trans List.countP_le_length (by rw [List.length_take]; omega)
          have hnx := countP_take (p := fun x : Bk => !x.used) hy
          rw [hk] at hnx
          have huj : usedAt l j = y.used := by unfold usedAt; rw [hy]
          obtain ⟨yo, ys, yu⟩ := y
          dsimp only at p2 huj hnx
          have HUJ := Lib.hid huj
          have HPA := Lib.hid hpa
          cases yu with
          | true =>
            have HNX : Hid ((l.take (j + 1)).countP (fun x => !x.used) = k) := hnx
            have HP2 : Hid (∀ i, i < j + 1 → pairOk l i = true) := fun i hi => by
              rcases Nat.lt_or_ge i j with h | h
              · exact HPA.out i h
              · obtain rfl : i = j := by omega
                unfold pairOk; rw [HUJ.out]; simp
            clear hc hy hnx huj hpa hk
            by_cases hj0 : 0 < j
            · have g1 : decide (0 < j) = true := decide_eq_true hj0
              have g2 : decide ((0 : Int) < (j : Int)) = true := decide_eq_true (by omega)
              have HJ0 := Lib.hid hj0
              clear hj0
              go_wp2
              go_roundw
              case rel => exact ⟨j + 1, k, by go_num, rfl, by omega, HNX.out, HP2.out, trivial⟩
              case measure => simp only [intOf]; omega
            · have g1 : decide (0 < j) = false := decide_eq_false hj0
              have g2 : decide ((0 : Int) < (j : Int)) = false := decide_eq_false (by omega)
              have HJ0 := Lib.hid hj0
              clear hj0
              go_wp2
              go_roundw
              case rel => exact ⟨j + 1, k, by go_num, rfl, by omega, HNX.out, HP2.out, trivial⟩
              case measure => simp only [intOf]; omega
          | false =>
            have HNX : Hid ((l.take (j + 1)).countP (fun x => !x.used) = k + 1) := hnx
            by_cases hj0 : 0 < j
            · have g1 : decide (0 < j) = true := decide_eq_true hj0
              have g2 : decide ((0 : Int) < (j : Int)) = true := decide_eq_true (by omega)
              obtain ⟨jj, hjj⟩ : ∃ jj, j - 1 = jj := ⟨_, rfl⟩
              have hk1 : (j : Int) - 1 = (jj : Int) := by omega
              have hjl : jj < l.length := by omega
              obtain ⟨z, hz⟩ : ∃ z, l[jj]? = some z := ⟨l[jj], List.getElem?_eq_getElem hjl⟩
              obtain ⟨_, _, q2⟩ := hc jj z hz
              have huz : usedAt l (j - 1) = z.used := by unfold usedAt; rw [hjj, hz]
              obtain ⟨zo, zs, zu⟩ := z
              dsimp only at q2 huz
              have HUZ := Lib.hid huz
              have HJ0 := Lib.hid hj0
              cases zu with
              | true =>
                have HP2 : Hid (∀ i, i < j + 1 → pairOk l i = true) := fun i hi => by
                  rcases Nat.lt_or_ge i j with h | h
                  · exact HPA.out i h
                  · obtain rfl : i = j := by omega
                    unfold pairOk; rw [HUZ.out]; simp
                clear hc hy hnx huj hpa hk hj0 hjj huz hz
                go_wp2
                go_roundw
                case rel => exact ⟨j + 1, k + 1, by go_num, by go_num, by omega, HNX.out, HP2.out, trivial⟩
                case measure => simp only [intOf]; omega
              | false =>
                have hbad : pairOk l j = false := by
                  unfold pairOk; rw [HUJ.out, HUZ.out]; simp; have := HJ0.out; omega
                obtain rfl : false = x := by
                  rw [← HX.out]
                  have : noAdj l = false := by
                    unfold noAdj
                    rw [List.all_eq_false]
                    exact ⟨j, List.mem_range.2 hlt, by rw [hbad]; simp⟩
                  rw [this]; rfl
                clear hc hy hnx huj hpa hk hj0 hjj huz hz hbad HX
                go_wp2
                go_ret
                exact ⟨rfl, by rw [HB0.out]; exact HB1.out⟩
            · have g1 : decide (0 < j) = false := decide_eq_false hj0
              have g2 : decide ((0 : Int) < (j : Int)) = false := decide_eq_false (by omega)
              have HJ0 := Lib.hid hj0
              have HP2 : Hid (∀ i, i < j + 1 → pairOk l i = true) := fun i hi => by
                rcases Nat.lt_or_ge i j with h | h
                · exact HPA.out i h
                · obtain rfl : i = 0 := by have := HJ0.out; omega
                  rfl
              clear hc hy hnx huj hpa hk hj0
              go_wp2
              go_roundw
              case rel => exact ⟨j + 1, k + 1, by go_num, by go_num, by omega, HNX.out, HP2.out, trivial⟩
              case measure => simp only [intOf]; omega
        · have hno : noAdj l = true := by
            unfold noAdj
            rw [List.all_eq_true]
            exact fun i hi => hpa i (by have := List.mem_range.1 hi; omega)
          have hkf : cntFree l = k := by rw [← hk, List.take_of_length_le (by omega)]; rfl
          have hx3 : chkC bs l 22 0 (k : Int) = x := by rw [← HX.out, hno, hkf, Bool.true_and]
          have hkl : k ≤ l.length := by rw [← hkf]; exact List.countP_le_length
          have HX3 := Lib.hid hx3
          clear hno hkf hx3 hpa hk HX
          go_wp2
          go_loopw [5, 7] (fun f t wr => ∃ (c q : Nat) (fr : Int), t = .int .i64 (c : Int) ∧ f = .int .i64 fr ∧ c + q = 22 ∧ chkC bs l q c fr = x ∧ -1024 * (c : Int) ≤ fr ∧ fr ≤ 1000000 ∧ Below w1.heap.size w1 wr) (fun _ t _ => 22 - (intOf t).toNat)
          case atStart => exact ⟨0, 22, k, rfl, rfl, rfl, HX3.out, by omega, by omega, Below.refl _ _⟩
          case round =>
            obtain ⟨c, q, fr, rfl, rfl, hcq, hxc, hf1, hf2, hb⟩ := hrel
            have hBw : B0 ≤ wr.heap.size := Nat.le_trans hB1 hb.size
            by_cases hc22 : c < 22
            · obtain ⟨q, rfl⟩ : ∃ q', q = q' + 1 := ⟨q - 1, by omega⟩
              have hb0 : Below B0 w wr := HB1.out.trans (hb.mono hB1)
              have hrw : Rd wr wr.heap.size A bs.length bs := (HR.out.keep (fun q hq => hb0.cell (p := q) (by have := HB0.out; omega))).more (by have := HB0.out; omega)
              cases ha : allB bs c with
              | none =>
                obtain rfl : false = x := by rw [← hxc]; unfold chkC; rw [ha]
                have hA := rall_any wr A ca bs hrw hlc hl c hc22 _ ha
                have HA := Lib.hid hA
                have HB := Lib.hid hb0
                clear hA hb hb0 hxc hrw HX3 ha
                go_wp2_with fail
                with_reducible refine HA.out.mono ?_
                rintro e w2 ⟨A', c', rfl, _, hb2⟩
                have HB2 := Lib.hid (HB.out.trans (hb2.mono hBw))
                clear hb2
                dsimp only [Option.isSome, Option.getD]
                go_wp2
                go_ret
                exact ⟨rfl, by rw [HB0.out]; exact HB2.out⟩
              | some al =>
                have hA := rall_any wr A ca bs hrw hlc hl c hc22 _ ha
                dsimp only [IntsTold, Option.isSome, Option.getD] at hA
                have hxc' : (al.all (okO l al) && chkC bs l q (c + 1) (fr - al.length)) = x := by
                  rw [← hxc]
                  conv => rhs; unfold chkC
                  rw [ha] <;> rfl
                have hal := allB_len ha
                have HA := Lib.hid hA
                have HB := Lib.hid hb
                have HXC := Lib.hid hxc'
                clear hA hb hb0 hxc hxc' hrw HX3 ha
                go_wp2_with fail
                with_reducible refine HA.out.mono ?_
                rintro e w2 ⟨A8, c8, rfl, ho2, hb2⟩
                have HB2 := Lib.hid (HB.out.trans (hb2.mono HB.out.size))
                have hB2 : w1.heap.size ≤ w2.heap.size := Nat.le_trans HB.out.size hb2.size
                have HI := Lib.hid (own_ints ho2 rfl)
                have HK2 := Lib.hid ((HBK.out.below HB2.out).more hB2)
                clear hb2 ho2 HA HB
                go_wp2
                go_loopw [10] (fun i wr => ∃ j : Nat, j ≤ al.length ∧ i = .int .i64 (j : Int) ∧ (∀ o ∈ al.take j, okO l al o = true) ∧ Below w2.heap.size w2 wr) (fun i _ => al.length - (intOf i).toNat)
                case atStart => exact ⟨0, Nat.zero_le _, rfl, by simp, Below.refl _ _⟩
                case round =>
                  obtain ⟨j, hj, rfl, hok, hb3⟩ := hrel
                  by_cases hlt3 : j < al.length
                  · obtain ⟨o, ho⟩ : ∃ o, al[j]? = some o := ⟨al[j], List.getElem?_eq_getElem hlt3⟩
                    obtain ⟨b8, a8, rfl, hb8, hc8⟩ := HI.out (by simp [nats]; omega)
                    have p8 := (hb3.cell (p := ⟨b8, a8 + j, none⟩) hb8).trans (hc8 j o (by rw [nats, List.getElem?_map, ho]; rfl))
                    have HOK := Lib.hid hok
                    have HO := Lib.hid ho
                    have HB3 := Lib.hid hb3
                    have hs3 := hb3.size
                    obtain ⟨w4, rfl⟩ : ∃ w4, w4 = wr := ⟨_, rfl⟩
                    have P8 := Lib.hid p8
                    have hb8r : b8 < w4.heap.size := by omega
                    clear hc8 hok ho hb3 p8
                    go_wp2
                    go_loopw [11, 12] (fun f i wr' => ∃ (m : Nat) (fd : Bool), m ≤ l.length ∧ i = .int .i64 (m : Int) ∧ f = .bool fd ∧ (l.take m).any (fun x => x.off == o && !x.used) = fd ∧ Below w4.heap.size w4 wr') (fun _ i _ => l.length - (intOf i).toNat)
                    case atStart => exact ⟨0, false, Nat.zero_le _, rfl, rfl, rfl, Below.refl _ _⟩
                    case round =>
                      obtain ⟨m, fd, hm, rfl, rfl, hfd, hb4⟩ := hrel
                      by_cases hlt4 : m < l.length
                      · obtain ⟨y, hy⟩ : ∃ y, l[m]? = some y := ⟨l[m], List.getElem?_eq_getElem hlt4⟩
                        obtain ⟨b3, a3, rfl, hb3', hc3⟩ := HK2.out (by omega)
                        obtain ⟨p0, _, p2⟩ := hc3 m y hy
                        have hb3r : b3 < w4.heap.size := Nat.lt_of_lt_of_le hb3' hs3
                        have q0 := (hb4.cell (p := ⟨b3, _, none⟩) hb3r).trans ((HB3.out.cell (p := ⟨b3, _, none⟩) hb3').trans p0)
                        have q2 := (hb4.cell (p := ⟨b3, _, none⟩) hb3r).trans ((HB3.out.cell (p := ⟨b3, _, none⟩) hb3').trans p2)
                        have q8 := (hb4.cell (p := ⟨b8, a8 + j, none⟩) hb8r).trans P8.out
                        have hnx := any_take (p := fun x : Bk => x.off == o && !x.used) hy
                        rw [hfd] at hnx
                        obtain ⟨yo, ys, yu⟩ := y
                        dsimp only at q0 q2 hnx
                        have HNX := Lib.hid hnx
                        have HB4 := Lib.hid hb4
                        clear p0 p2 hc3 hy hnx hfd hb4
                        cases fd with
                        | true =>
                          have HN : Hid ((l.take (m + 1)).any (fun x => x.off == o && !x.used) = true) := HNX.out
                          go_wp2_with fail
                          go_quiet (fail)
                          have HBQ : Hid (Below w4.heap.size w4 (wr.drewN nq)) := ⟨HB4.out.os, HB4.out.tape, HB4.out.output, HB4.out.size, HB4.out.block⟩
                          clear q0 q2 q8
                          go_wp2
                          go_roundw
                          case rel => exact ⟨m + 1, _, by omega, by go_num, rfl, HN.out, HBQ.out⟩
                          case measure => simp only [intOf]; omega
                        | false =>
                          by_cases he : yo = o
                          · have e1 : ((yo : Int) == (o : Int)) = true := by rw [he]; simp
                            have HN : Hid ((l.take (m + 1)).any (fun x => x.off == o && !x.used) = !yu) := HNX.out.trans (by rw [he]; simp)
                            clear he
                            cases yu with
                            | true =>
                              go_wp2_with fail
                              go_quiet (fail)
                              have HBQ : Hid (Below w4.heap.size w4 (wr.drewN nq)) := ⟨HB4.out.os, HB4.out.tape, HB4.out.output, HB4.out.size, HB4.out.block⟩
                              clear q0 q2 q8
                              go_wp2
                              go_roundw
                              case rel => exact ⟨m + 1, _, by omega, by go_num, rfl, HN.out, HBQ.out⟩
                              case measure => simp only [intOf]; omega
                            | false =>
                              go_wp2_with fail
                              go_quiet (fail)
                              have HBQ : Hid (Below w4.heap.size w4 (wr.drewN nq)) := ⟨HB4.out.os, HB4.out.tape, HB4.out.output, HB4.out.size, HB4.out.block⟩
                              clear q0 q2 q8
                              go_wp2
                              go_roundw
                              case rel => exact ⟨m + 1, _, by omega, by go_num, rfl, HN.out, HBQ.out⟩
                              case measure => simp only [intOf]; omega
                          · have e1 : ((yo : Int) == (o : Int)) = false := by rw [beq_eq_false_iff_ne]; omega
                            have HN : Hid ((l.take (m + 1)).any (fun x => x.off == o && !x.used) = false) := HNX.out.trans (by rw [beq_eq_false_iff_ne.2 he]; rfl)
                            clear he
                            go_wp2_with fail
                            go_quiet (fail)
                            have HBQ : Hid (Below w4.heap.size w4 (wr.drewN nq)) := ⟨HB4.out.os, HB4.out.tape, HB4.out.output, HB4.out.size, HB4.out.block⟩
                            clear q0 q2 q8
                            go_wp2
                            go_roundw
                            case rel => exact ⟨m + 1, _, by omega, by go_num, rfl, HN.out, HBQ.out⟩
                            case measure => simp only [intOf]; omega
                      · have hfd2 : foundB l o = fd := by rw [← hfd, List.take_of_length_le (by omega)]; rfl
                        have hmem : o ∈ al := List.mem_of_getElem? HO.out
                        have q8 := (hb4.cell (p := ⟨b8, a8 + j, none⟩) hb8r).trans P8.out
                        have hb24 : Below w2.heap.size w2 wr := HB3.out.trans (hb4.mono hs3)
                        have hi4 := HI.out.below hb24
                        have HB24 := Lib.hid hb24
                        obtain ⟨kc, hkc⟩ : ∃ kc, al.count o = kc := ⟨_, rfl⟩
                        have HIN := Lib.hid (rin_any wr (some ⟨b8, a8, none⟩) c8 w2.heap.size al hi4 (by omega) o kc hkc)
                        have hokk : okO l al o = (fd && kc == 1) := by unfold okO; rw [hfd2, hkc]
                        have hbad : okO l al o = false → x = false := fun h => by
                          rw [← HXC.out]
                          have : al.all (okO l al) = false := by
                            rw [List.all_eq_false]
                            exact ⟨o, hmem, by rw [h]; simp⟩
                          rw [this]; rfl
                        have hkl : kc ≤ al.length := by rw [← hkc]; exact List.count_le_length
                        clear hfd hfd2 hmem hi4 hb4 hb24 hkc
                        cases fd with
                        | false =>
                          obtain rfl : x = false := hbad (by rw [hokk]; rfl)
                          clear hbad hokk HXC HIN
                          go_wp2
                          go_ret
                          exact ⟨rfl, by rw [HB0.out]; exact HB1.out.trans ((HB2.out.trans (HB24.out.mono hB2)).mono hB1)⟩
                        | true =>
                          by_cases hk1 : kc = 1
                          · have e1 : ((kc : Int) != 1) = false := by rw [hk1]; rfl
                            have HOK2 : Hid (∀ q ∈ al.take (j + 1), okO l al q = true) := fun q hq => by
                              rw [List.take_add_one, HO.out] at hq
                              rcases List.mem_append.1 hq with hq | hq
                              · exact HOK.out q hq
                              · simp at hq
                                rw [hq, hokk, hk1]; rfl
                            clear hbad hokk hk1
                            go_wp2_with fail
                            with_reducible refine HIN.out.mono ?_
                            rintro e w5 ⟨rfl, rfl⟩
                            go_wp2
                            go_roundw
                            case rel => exact ⟨j + 1, by omega, by go_num, HOK2.out, HB24.out⟩
                            case measure => simp only [intOf]; omega
                          · have e1 : ((kc : Int) != 1) = true := by rw [bne_iff_ne]; omega
                            obtain rfl : x = false := hbad (by rw [hokk, beq_eq_false_iff_ne.2 hk1]; rfl)
                            clear hbad hokk hk1 HXC
                            go_wp2_with fail
                            with_reducible refine HIN.out.mono ?_
                            rintro e w5 ⟨rfl, rfl⟩
                            go_wp2
                            go_ret
                            exact ⟨rfl, by rw [HB0.out]; exact HB1.out.trans ((HB2.out.trans (HB24.out.mono hB2)).mono hB1)⟩
                  · have hj2 : j = al.length := by omega
                    have hall : al.all (okO l al) = true := by
                      rw [List.all_eq_true]
                      intro o ho
                      exact hok o (by rw [hj2, List.take_length]; exact ho)
                    have hx4 := HXC.out
                    rw [hall, Bool.true_and] at hx4
                    have HX4 := Lib.hid hx4
                    have HB5 := Lib.hid (HB2.out.trans (hb3.mono hB2))
                    clear hall hok hb3 HXC hx4
                    go_wp2
                    go_roundw
                    case rel => exact ⟨c + 1, q, fr - al.length, by go_num, by go_num, by omega, HX4.out, by omega, by omega, HB5.out⟩
                    case measure => simp only [intOf]; omega
            · obtain ⟨rfl, rfl⟩ : c = 22 ∧ q = 0 := by omega
              have hb0 : Below B0 w wr := HB1.out.trans (hb.mono hB1)
              have HB := Lib.hid hb0
              have HXC : Hid ((fr == 0) = x) := hxc
              clear hb hb0 hxc HX3
              go_wp2
              go_ret
              exact ⟨rt_b HXC.out, by rw [HB0.out]; exact HB.out⟩
end
end Go.Proofs.YtbldlidpapdkbaaGreat

/- What the program's blocks (layer 7) are to tell: the words in which the laws of the layers above ask for it. -/
namespace Go.Proofs.YtbldlidpapdkbaaGreat
open Go.RowKit

/-- No error, or one of api's. -/
def errV (ok : Bool) (k : Int) : Value := match ok with
  | true => .nilIface
  | false => .iface 55 (.int .i64 k)
/-- A block, or an error. -/
def BlkTold (x : Option Bk) (w : World) (e : Ending) (w' : World) : Prop := e = .returned (.tuple #[bkV x, errV x.isSome 3]) ∧ Below w.heap.size w w'
/-- Blocks, or an error. -/
def BlksTold (x : Option (List Bk)) (w : World) (e : Ending) (w' : World) : Prop :=
  ∃ A' c', e = .returned (.tuple #[.slice A' (x.getD []).length c', errV x.isSome 3]) ∧ w'.ownsRow w.heap.size 50 3 (.slice A' (x.getD []).length c') (x.getD []).length (flatK (x.getD [])) ∧ Below w.heap.size w w'
/-- The arena has other bytes, or there is an error, and all is as it was. -/
def Done (k : Int) (t : TypeId) (g base cap : Nat) (A : Option Addr) (y : Option (List UInt8)) (w : World) (e : Ending) (w' : World) : Prop :=
  match y with
  | none => e = .returned (errV false k) ∧ Below w.heap.size w w'
  | some out => e = .returned (errV true k) ∧ Became t g base cap A out w w'

def GetC : Prop := ∀ (w : World) (g base cap c : Nat) (A : Option Addr) (bs : List UInt8) (o : Int) (x : Option Bk), Ar w 82 g base cap A c bs → base ≤ 4611686018427387904 → bs.length ≤ 16384 → (-9223372036854775808 ≤ o ∧ o ≤ 9223372036854775807) → getB bs o = x →
  Calls Tryz.prog 61 #[.pointer (some ⟨g, 0, none⟩), .int .i64 o] w fun e w' => BlkTold x w e w'
def AheadC : Prop := ∀ (w : World) (g base cap c : Nat) (A : Option Addr) (bs : List UInt8) (o : Int) (x : Option Bk), Ar w 82 g base cap A c bs → base ≤ 4611686018427387904 → bs.length ≤ 16384 → (-9223372036854775808 ≤ o ∧ o ≤ 9223372036854775807) → aheadB bs o = x →
  Calls Tryz.prog 89 #[.pointer (some ⟨g, 0, none⟩), .int .i64 o] w fun e w' => BlkTold x w e w'
def SetC : Prop := ∀ (w : World) (g base cap c : Nat) (A : Option Addr) (bs : List UInt8) (o s : Int) (u : Bool) (y : Option (List UInt8)), Ar w 82 g base cap A c bs → base ≤ 4611686018427387904 → bs.length ≤ 16384 → (-9223372036854775808 ≤ o ∧ o ≤ 9223372036854775807) → (-9223372036854775808 ≤ s ∧ s ≤ 9223372036854775807) → setB bs o s u = y →
  Calls Tryz.prog 73 #[.pointer (some ⟨g, 0, none⟩), .agg #[.int .i64 o, .int .i64 s, .bool u]] w fun e w' => Done 1 82 g base cap A y w e w'
def WalkC : Prop := ∀ (w : World) (g base cap c : Nat) (A : Option Addr) (bs : List UInt8) (x : Option (List Bk)), Ar w 82 g base cap A c bs → base ≤ 4611686018427387904 → bs.length ≤ 16384 → walkB bs = x →
  Calls Tryz.prog 43 #[.pointer (some ⟨g, 0, none⟩)] w fun e w' => BlksTold x w e w'

theorem setB_of (bs : List UInt8) (x : Bk) (h1 : 184 ≤ x.off) (h2 : x.off % 16 = 8) (h3 : x.off + x.size ≤ bs.length) (h4 : isSz (x.size : Int) = true) : setB bs (x.off : Int) (x.size : Int) x.used = some (setT bs x) := by
  have h5 := (isSz_iff _).1 h4
  unfold setB setT tagN
  rw [if_pos ⟨h4, (could_iff _ _ _).2 (by omega)⟩, layN_eq, layN_eq]
  have e : ((x.off : Int) + (x.size : Int) - 8).toNat = x.off + x.size - 8 := by omega
  rw [e]
  simp
theorem BkRd.of_own {w : World} {base : Nat} {t : TypeId} {A : Option Addr} {c : Nat} {l : List Bk} (h : w.ownsRow base t 3 (.slice A l.length c) l.length (flatK l)) : BkRd w w.heap.size A l := own_bks h rfl

end Go.Proofs.YtbldlidpapdkbaaGreat

/- How a world stands in the walks of the laws of layers 7 to 11: an arena of the law's own, blocks behind a bound, what was there below it. -/
namespace Go.Proofs.YtbldlidpapdkbaaGreat
open Go.RowKit

/-- Since wB nothing below has changed; an arena lies above; these objects, too. -/
structure St (wB W : World) (g base cap : Nat) (A : Option Addr) (c : Nat) (bs : List UInt8) (L : List (Nat × Obj)) : Prop where
  bel : Below wB.heap.size wB W
  ar : Ar W 82 g base cap A c bs
  gB : wB.heap.size ≤ g
  aB : ∀ a, A = some a → wB.heap.size ≤ a.block
  has : ∀ p ∈ L, W.heap[p.1]? = some p.2

section
variable {wB W W' : World} {g base cap c : Nat} {A : Option Addr} {bs : List UInt8} {L : List (Nat × Obj)}
theorem St.size (h : St wB W g base cap A c bs L) : wB.heap.size ≤ W.heap.size := h.bel.size
theorem St.below (h : St wB W g base cap A c bs L) (hb : Below W.heap.size W W') : St wB W' g base cap A c bs L :=
  ⟨h.bel.trans (hb.mono h.size), h.ar.below hb, h.gB, h.aB, fun p hp => (hb.block p.1 (heap_lt (h.has p hp))).trans (h.has p hp)⟩
theorem St.alloc (h : St wB W g base cap A c bs L) (o : Obj) : St wB (W.alloc o) g base cap A c bs ((W.heap.size, o) :: L) := by
  have hb : Below W.heap.size W (W.alloc o) := (Below.refl _ _).alloc (Nat.le_refl _) o
  have h' := h.below hb
  refine ⟨h'.bel, h'.ar, h'.gB, h'.aB, fun p hp => ?_⟩
  rcases List.mem_cons.1 hp with rfl | hp
  · exact heap_alloc_new W o
  · exact h'.has p hp
theorem St.drewN (h : St wB W g base cap A c bs L) (k : Nat) : St wB (W.drewN k) g base cap A c bs L :=
  ⟨⟨h.bel.os, h.bel.tape, h.bel.output, h.bel.size, h.bel.block⟩, h.ar.drewN k, h.gB, h.aB, h.has⟩
theorem St.became {out : List UInt8} (h : St wB W g base cap A c bs L) (hb : Became 82 g base cap A out W W') : ∃ A' c', St wB W' g base cap A' c' out [] := by
  obtain ⟨A', c', har, hbl, hA⟩ := hb.below (B := wB.heap.size) h.gB h.aB h.size
  exact ⟨A', c', h.bel.trans hbl, har, h.gB, hA, fun p hp => by cases hp⟩
theorem St.made {w : World} {e : Ending} {w' : World} (h : MadeAr base cap bs w e w') : ∃ g A c, e = .returned (.pointer (some ⟨g, 0, none⟩)) ∧ St w w' g base cap A c bs [] := by
  obtain ⟨g, A, c, he, har, hb, hg, hA⟩ := h
  exact ⟨g, A, c, he, hb, har, hg, hA, fun p hp => by cases hp⟩
theorem St.rd (h : St wB W g base cap A c bs L) {n : Nat} {A' : Option Addr} {cs : List UInt8} (r : Rd wB wB.heap.size A' n cs) : Rd W W.heap.size A' n cs := (r.below h.bel).more h.size
theorem St.obj (h : St wB W g base cap A c bs L) {p : Nat} {o : Obj} (hp : (p, o) ∈ L) : W.heap[p]? = some o := h.has (p, o) hp
end
end Go.Proofs.YtbldlidpapdkbaaGreat

/- The contracts of an arena's calls: Widen, Word, Fill; and of the document's own arena: Grow, Widen, There. -/
namespace Go.Proofs.YtbldlidpapdkbaaGreat
open Go.RowKit

section
variable {w : World} {t : TypeId} {g base cap c : Nat} {A : Option Addr} {bs : List UInt8}
set_option maxRecDepth 100000 in
set_option maxHeartbeats 400000 in
theorem word_ok (h : Ar w 82 g base cap A c bs) (hl : bs.length ≤ 1000000) (x d : Nat) (hx : x < 18446744073709551616) (h1 : base ≤ x) (hd : x - base = d) (h2 : d + 8 ≤ bs.length) :
    Calls Tryz.prog 62 #[.pointer (some ⟨g, 0, none⟩), .int .u64 (x : Int)] w fun e w' => e = .returned (.tuple #[.int .u64 (numB ((bs.drop d).take 8) : Int), .nilIface]) ∧ w = w' := by
  have HP := Lib.hid (place_at h hl x 8 d hx h1 hd h2)
  have HG := Lib.hid (get_yes A bs.length c w.heap.size bs d w h.reads h.le hl h2)
  have c2 := h.c2
  clear hd
  go_enter Tryz.func62, Tryz.ntmps62
  go_wp2_with fail
  refine HP.out.mono ?_
  rintro e w' ⟨rfl, rfl⟩
  go_wp2_with fail
  refine HG.out.mono ?_
  rintro e w' ⟨rfl, rfl⟩
  go_wp2
  go_ret2
  exact ⟨rfl, rfl⟩

set_option maxRecDepth 100000 in
set_option maxHeartbeats 400000 in
theorem word_no (h : Ar w 82 g base cap A c bs) (hl : bs.length ≤ 1000000) (x : Nat) (hx : x < 18446744073709551616) (h2 : base ≤ x → bs.length < x - base + 8) :
    Calls Tryz.prog 62 #[.pointer (some ⟨g, 0, none⟩), .int .u64 (x : Int)] w fun e w' => e = .returned (.tuple #[.int .u64 0, .iface 55 (.int .i64 2)]) ∧ w = w' := by
  have HP := Lib.hid (place_no h hl x 8 hx h2)
  clear h2
  go_enter Tryz.func62, Tryz.ntmps62
  go_wp2_with fail
  refine HP.out.mono ?_
  rintro e w' ⟨rfl, rfl⟩
  go_wp2
  go_ret2
  exact ⟨rfl, rfl⟩

theorem lay_step (d k : Nat) (u : UInt8) (h : d + k < bs.length) : (lay bs d (List.replicate k u)).set (d + k) u = lay bs d (List.replicate (k + 1) u) := by
  have e : (bs.take d).length = d := by simp; omega
  unfold lay
  rw [List.set_append_right _ _ (by omega), e, Nat.add_sub_cancel_left, List.set_append_right _ _ (by simp)]
  simp only [List.length_replicate, Nat.sub_self]
  rw [List.drop_eq_getElem_cons (by omega), List.set_cons_zero, List.replicate_succ', List.append_assoc]
  rfl

/-- One byte of the arena's row is set. -/
theorem Ar.put1 (h : Ar w t g base cap A c bs) (ht : t ≠ 5) {h' : Nat} (hA : A = some ⟨h', 0, none⟩) (j : Nat) (u : UInt8) : Ar (w.setCell ⟨h', j, none⟩ (bv u)) t g base cap A c (bs.set j u) ∧ Tch (foot g A) w (w.setCell ⟨h', j, none⟩ (bv u)) := by
  subst hA
  have hne : g ≠ h' := (own_ne h.own h.obj ht rfl).symm
  refine ⟨⟨?_, ?_⟩, Tch.set w ⟨h', j, none⟩ _ (.inr ⟨_, rfl, rfl⟩)⟩
  · rw [Below.heap_setCell _ _ _ _ hne, List.length_set]
    exact h.obj
  · rw [List.length_set, List.map_set]
    exact (h.own.stored j (bv u)).1
theorem Ar.byte (h : Ar w t g base cap A c bs) {h' : Nat} (hA : A = some ⟨h', 0, none⟩) (j : Nat) (hj : j < bs.length) : ∃ u : UInt8, w.cell? ⟨h', j, none⟩ = some (bv u) ∧ w.frozen? ⟨h', j, none⟩ = false := by
  subst hA
  refine ⟨bs[j], ?_, h.own.frozenAt j⟩
  rw [h.own.cellAt j (by omega), List.getElem?_map, List.getElem?_eq_getElem hj]
  rfl

set_option maxRecDepth 100000 in
set_option maxHeartbeats 1000000 in
theorem fill_ok (h : Ar w 82 g base cap A c bs) (hl : bs.length ≤ 1000000) (x n d : Nat) (u : UInt8) (hx : x < 18446744073709551616) (h1 : base ≤ x) (hd : x - base = d) (h2 : d + n ≤ bs.length) :
    Calls Tryz.prog 69 #[.pointer (some ⟨g, 0, none⟩), .int .u64 (x : Int), .int .u64 (n : Int), .int .u8 (u.toNat : Int)] w fun e w' => e = .returned .nilIface ∧ Became 82 g base cap A (lay bs d (List.replicate n u)) w w' := by
  have HP := Lib.hid (place_at h hl x n d hx h1 hd h2)
  clear hd
  go_enter Tryz.func69, Tryz.ntmps69
  go_wp2_with fail
  refine HP.out.mono ?_
  rintro e w' ⟨rfl, rfl⟩
  go_wp2
  go_loopw [23] (fun i wr => ∃ k : Nat, k ≤ n ∧ i = .int .u64 k ∧ Ar wr 82 g base cap A c (lay bs d (List.replicate k u)) ∧ Tch (foot g A) w wr) (fun i _ => n - (intOf i).toNat)
  case atStart => exact ⟨0, Nat.zero_le _, rfl, by rw [List.replicate_zero, lay_nil]; exact h, Tch.refl _ _⟩
  case round =>
    obtain ⟨k, hk, rfl, ha, ht⟩ := hrel
    by_cases hlt : k < n
    · have hlen := lay_length bs d (List.replicate k u) (by simp; omega)
      rcases A with _ | ad
      · obtain ⟨e0, _⟩ := h.none_
        subst e0
        rw [List.length_nil] at h2
        omega
      · obtain ⟨h', rfl, _⟩ := h.row rfl
        obtain ⟨v, q1, q2⟩ := ha.byte rfl (d + k) (by omega)
        obtain ⟨p1, p2⟩ := ha.put1 (by decide) rfl (d + k) u
        rw [lay_step d k u (by omega)] at p1
        have c2 := ha.c2
        rw [hlen] at c2
        have P1 := Lib.hid p1
        have P2 := Lib.hid (ht.trans p2 (fun _ _ h => h))
        clear p1 p2 hlen ha ht
        go_wp2
        go_roundw
        case rel => exact ⟨k + 1, by omega, by go_num, P1.out, P2.out⟩
        case measure => simp [intOf]; omega
    · go_wp2
      go_ret
      obtain rfl : k = n := by omega
      exact ⟨rfl, A, c, ha, ht, .inl rfl⟩
end

end Go.Proofs.YtbldlidpapdkbaaGreat

/- A region that draws its order, with places at which one of two operations that are no readers may come up; an append to a row of this call's own as such an operation. No program in sight. -/
namespace Go.Proofs.YtbldlidpapdkbaaGreat
open Go.RowKit

/-- How a region may come up: readers first; then one operation, or either of two; a tail in the end. -/
inductive PT where
  | fin (last : List Nat)
  | one (rs : List Nat) (i : Nat) (t : PT)
  | two (rs : List Nat) (i1 : Nat) (t1 : PT) (i2 : Nat) (t2 : PT)

def PT.ok (ops : Array Oper) (T : List Nat) : PT → Array Bool → Bool
  | .fin last, l => segT ops T l last && seqT ops (mark l last) T
  | .one rs i t, l => segT ops T l rs && (Region.ready .any ops (mark l rs) == [i] && !mv ops i && t.ok ops T ((mark l rs).setIfInBounds i true))
  | .two rs i1 t1 i2 t2, l => segT ops T l rs && (Region.ready .any ops (mark l rs) == [i1, i2] && (!mv ops i1 && !mv ops i2) && (t1.ok ops T ((mark l rs).setIfInBounds i1 true) && t2.ok ops T ((mark l rs).setIfInBounds i2 true)))
def PT.len (T : List Nat) : PT → Nat
  | .fin last => T.length + last.length
  | .one rs _ t => 1 + t.len T + rs.length
  | .two rs _ t1 _ _ => 1 + t1.len T + rs.length
/-- Both ways are as long. -/
def PT.even (T : List Nat) : PT → Bool
  | .fin _ => true
  | .one _ _ t => t.even T
  | .two _ _ t1 _ t2 => t1.len T == t2.len T && (t1.even T && t2.even T)
def PT.wp (P : Program) (ops : Array Oper) (Q : Exit → Act → World → Prop) (T : List Nat) : PT → Nat → Act → World → Prop
  | .fin last, B, a, w => wpQuiet P ops (AfterB B w) (fun a' => wpList P ops Q (pick ops T) a' w) (pick ops last) a
  | .one rs i t, B, a, w => wpQuiet P ops (AfterB B w) (fun a' => wpOp P ops Q i (fun a'' w'' => Below B w w'' ∧ ∃ B', B ≤ B' ∧ t.wp P ops Q T B' a'' w'') a' w) (pick ops rs) a
  | .two rs i1 t1 i2 t2, B, a, w => wpQuiet P ops (AfterB B w) (fun a' => wpOp P ops Q i1 (fun a'' w'' => Below B w w'' ∧ ∃ B', B ≤ B' ∧ t1.wp P ops Q T B' a'' w'') a' w ∧ wpOp P ops Q i2 (fun a'' w'' => Below B w w'' ∧ ∃ B', B ≤ B' ∧ t2.wp P ops Q T B' a'' w'') a' w) (pick ops rs) a

section
variable {P : Program} {ops : Array Oper} {Q : Exit → Act → World → Prop} {T : List Nat}
theorem PT.any (hsel : Region.noSelect ops = true) (hQ : ∀ c a t v w, Q (.panic c) (Act.put a (some t) v) w → Q (.panic c) a w) :
    ∀ (p : PT) (l : Array Bool) (B : Nat) (a : Act) (w : World), p.even T = true → p.ok ops T l = true → p.wp P ops Q T B a w → wpAnyT P ops Q (Below B w) T (p.len T) l a w
  | .fin last, l, B, a, w, _, hc, h => by
    simp only [PT.ok, Bool.and_eq_true] at hc
    exact segT_any hsel hQ B w _ T.length last l a hc.1 h (fun a' ha => seqT_any (fun _ h => h) T _ a' w (fun _ h => h) hc.2 ha)
  | .one rs i t, l, B, a, w, he, hc, h => by
    simp only [PT.ok, Bool.and_eq_true, beq_iff_eq] at hc
    simp only [PT.even] at he
    obtain ⟨h1, ⟨h2, h6⟩, h3⟩ := hc
    refine segT_any hsel hQ B w _ (1 + t.len T) rs l a h1 h (fun a' ha => ?_)
    rw [Nat.add_comm]
    refine ⟨fun h0 => (by rw [h2] at h0; cases h0), fun j hj => ?_⟩
    rw [h2] at hj
    obtain rfl : j = i := by simpa using hj
    refine wpOp_mono (fun a'' w'' hh => ⟨fun _ _ => hh.1, fun hm => by simp [hm] at h6, ?_⟩) ha
    obtain ⟨hb, B', hB, hm⟩ := hh
    exact wpAnyT_less (fun w3 h4 => hb.trans (h4.mono hB)) _ _ _ _ (PT.any hsel hQ t _ B' a'' w'' he h3 hm)
  | .two rs i1 t1 i2 t2, l, B, a, w, he, hc, h => by
    simp only [PT.ok, Bool.and_eq_true, beq_iff_eq] at hc
    simp only [PT.even, Bool.and_eq_true, beq_iff_eq] at he
    obtain ⟨h1, ⟨h2, m1, m2⟩, k1, k2⟩ := hc
    obtain ⟨e0, e1, e2⟩ := he
    refine segT_any hsel hQ B w _ (1 + t1.len T) rs l a h1 h (fun a' ha => ?_)
    rw [Nat.add_comm]
    refine ⟨fun h0 => (by rw [h2] at h0; cases h0), fun j hj => ?_⟩
    rw [h2] at hj
    rcases List.mem_cons.1 hj with rfl | hj
    · refine wpOp_mono (fun a'' w'' hh => ⟨fun _ _ => hh.1, fun hm => by simp [hm] at m1, ?_⟩) ha.1
      obtain ⟨hb, B', hB, hm⟩ := hh
      exact wpAnyT_less (fun w3 h4 => hb.trans (h4.mono hB)) _ _ _ _ (PT.any hsel hQ t1 _ B' a'' w'' e1 k1 hm)
    · obtain rfl : j = i2 := by simpa using hj
      rw [e0]
      refine wpOp_mono (fun a'' w'' hh => ⟨fun _ _ => hh.1, fun hm => by simp [hm] at m2, ?_⟩) ha.2
      obtain ⟨hb, B', hB, hm⟩ := hh
      exact wpAnyT_less (fun w3 h4 => hb.trans (h4.mono hB)) _ _ _ _ (PT.any hsel hQ t2 _ B' a'' w'' e2 k2 hm)

/-- What a slice tells, cell by cell. -/
def Src (w : World) (A : Option Addr) (m c : Nat) (news : List Value) : Prop := (A = none → m = 0 ∧ c = 0 ∧ news = []) ∧ ∀ ad, A = some ad → ∀ j u, news[j]? = some u → w.cell? (ad.add j) = some u
theorem Src.below {w w' : World} {A : Option Addr} {m c B : Nat} {news : List Value} (h : Src w A m c news) (hb : Below B w w') (hA : ∀ a, A = some a → a.block < B) : Src w' A m c news :=
  ⟨h.1, fun ad e j u hu => by
    refine (World.cell?_of_block (w := w) (hb.block _ ?_)).trans (h.2 ad e j u hu)
    have : (ad.add j).block = ad.block := by unfold Addr.add; split <;> rfl
    rw [this]; exact hA ad e⟩
end
end Go.Proofs.YtbldlidpapdkbaaGreat

/- The law of one order over calls that may change the blocks of a set, and no other block that was there. No program in sight. -/
namespace Go.Proofs.YtbldlidpapdkbaaGreat
open Go.RowKit

/-- The worlds from w on in which, of what was there, only blocks of S are others. -/
def LaterS (S : Nat → Prop) (w : World) : Type := { w' : World // Tch S w w' }
def LaterS.val {S : Nat → Prop} {w : World} (x : LaterS S w) : World := x.1
theorem LaterS.ext {S : Nat → Prop} {w : World} (x : LaterS S w) : Tch S w x.val := x.2
instance (S : Nat → Prop) (w : World) : Nonempty (LaterS S w) := ⟨⟨w, Tch.refl _ _⟩⟩
def AfterS (S : Nat → Prop) (w : World) (w' : World) : Prop := ∃ x : LaterS S w, w' = x.val
attribute [go_sem] AfterS

theorem Tch.cell {S : Nat → Prop} {w w' : World} (h : Tch S w w') {a : Addr} {v : Value} (hc : w.cell? a = some v) (hn : ¬ S a.block) : w'.cell? a = some v :=
  (World.cell?_of_block (h.block a.block (cell_size hc) hn)).trans hc
where cell_size {w : World} {a : Addr} {v : Value} (h : w.cell? a = some v) : a.block < w.heap.size := by
        unfold World.cell? at h
        rcases Nat.lt_or_ge a.block w.heap.size with h1 | h1
        · exact h1
        · rw [Array.getElem?_eq_none h1] at h; simp at h

section
variable {P : Program} {ops : Array Oper} {Q : Exit → Act → World → Prop} {T : List Nat}

def wpS (P : Program) (ops : Array Oper) (Q : Exit → Act → World → Prop) (last T : List Nat) : List (List Nat × Nat) → (Nat → Prop) → Act → World → Prop
  | [], S, a, w => wpQuiet P ops (AfterS S w) (fun a' => wpList P ops Q (pick ops T) a' w) (pick ops last) a
  | (rs, i) :: more, S, a, w => wpQuiet P ops (AfterS S w) (fun a' => wpOp P ops Q i (fun a'' w'' => Tch S w w'' ∧ ∃ S' : Nat → Prop, (∀ k, k < w.heap.size → S' k → S k) ∧ wpS P ops Q last T more S' a'' w'') a' w) (pick ops rs) a

theorem segS_any (hsel : Region.noSelect ops = true) (hQ : ∀ c a t v w, Q (.panic c) (Act.put a (some t) v) w → Q (.panic c) a w) (S : Nat → Prop) (w : World) (K : Act → Prop) (n : Nat) :
    ∀ (rs : List Nat) (l : Array Bool) (a : Act), segT ops T l rs = true → wpQuiet P ops (AfterS S w) K (pick ops rs) a →
      (∀ a', K a' → wpAnyT P ops Q (Tch S w) T n (mark l rs) a' w) → wpAnyT P ops Q (Tch S w) T (n + rs.length) l a w
  | [], l, a, _, h, hk => hk a h
  | i :: r, l, a, hc, h, hk => by
    simp only [segT, Bool.and_eq_true] at hc
    obtain ⟨h1, h2, h3, h5, h4⟩ := hc
    simp only [behindT, Bool.and_eq_true, Bool.or_eq_true] at h5
    cases ho : ops[i]? with
    | none => simp [ho] at h3
    | some o =>
      simp only [ho, Option.map_some, Option.getD_some] at h3
      simp only [pick, ho] at h
      have step : ∃ v, YieldsIf P ops (Tch S w) o v a ∧ wpQuiet P ops (AfterS S w) K (pick ops r) (a.put o.dst v) := by
        unfold wpQuiet at h
        by_cases hw : Region.wanted o (yielded ops a.tmps) = true
        · rw [if_pos hw] at h
          obtain ⟨v, hv, hn⟩ := h
          refine ⟨v, .inl ⟨hw, fun w' hw' => ?_⟩, hn⟩
          have hq := hv w' ⟨⟨w', hw'⟩, rfl⟩
          unfold Oper.quietAt at hq
          generalize hr : (execOp a.eval o).run P w' = res at hq
          cases res with
          | ok m w1 =>
            obtain ⟨x, rfl⟩ := val_value h3 hr
            simp only [Oper.quietUpon] at hq
            rw [hq.1, hq.2]
          | halt x w1 => simp only [Oper.quietUpon] at hq
        · rw [if_neg hw] at h
          exact ⟨undef, .inr ⟨by simpa using hw, rfl⟩, h⟩
      obtain ⟨v, hy, hn⟩ := step
      have ih := segS_any hsel hQ S w K n r (l.setIfInBounds i true) (a.put o.dst v) h4 hn hk
      have hQ' : ∀ c a w, Q (.panic c) (a.put o.dst v) w → Q (.panic c) a w := fun c a' w' hh => by
        cases hd : o.dst with
        | none => rw [hd] at hh; exact hh
        | some t => rw [hd] at hh; exact hQ c a' t v w' hh
      have hy' : YieldsIf P ops (fun w' => mv ops i = true ∨ Tch S w w') o v a := by
        rcases hy with ⟨hw, hv⟩ | hy
        · refine .inl ⟨hw, fun w' hw' => ?_⟩
          rcases hw' with hw' | hw'
          · obtain ⟨o', x, ho', hx⟩ := mv_at hw'
            obtain rfl : o' = o := Option.some.inj (ho'.symm.trans ho)
            have e := hv w (Tch.refl _ _)
            rw [mv_run hx] at e ⊢
            injection e with e1 e2
            injection e1 with e1
            rw [e1]
          · exact hv w' hw'
        · exact .inr hy
      have := takeT (Q := Q) (S := Tch S w) (T := T) ho hsel hQ' (h5.imp id fun g => ⟨g.1, fun j hj => by have := List.all_eq_true.1 g.2.2 j hj; simpa using this⟩) (n + r.length) l a w (Region.free_spec ho h2) (h5.imp id fun g k hk => by have := List.all_eq_true.1 g.2.1 k hk; simpa using this) (by simpa using h1) hy' (.inr (Tch.refl _ _)) ih
      simpa [Nat.add_assoc] using this

theorem planS_any (hsel : Region.noSelect ops = true) (hQ : ∀ c a t v w, Q (.panic c) (Act.put a (some t) v) w → Q (.panic c) a w) (last : List Nat) :
    ∀ (p : List (List Nat × Nat)) (l : Array Bool) (S : Nat → Prop) (a : Act) (w : World), planT ops last T l p = true → wpS P ops Q last T p S a w → wpAnyT P ops Q (Tch S w) T (planTLen last T p) l a w
  | [], l, S, a, w, hc, h => by
    simp only [planT, Bool.and_eq_true] at hc
    exact segS_any hsel hQ S w _ T.length last l a hc.1 h (fun a' ha => seqT_any (fun _ h => h) T _ a' w (fun _ h => h) hc.2 ha)
  | (rs, i) :: more, l, S, a, w, hc, h => by
    simp only [planT, Bool.and_eq_true, beq_iff_eq] at hc
    obtain ⟨h1, ⟨h2, h6⟩, h3⟩ := hc
    refine segS_any hsel hQ S w _ (1 + planTLen last T more) rs l a h1 h (fun a' ha => ?_)
    rw [Nat.add_comm]
    refine ⟨fun h0 => (by rw [h2] at h0; cases h0), fun j hj => ?_⟩
    rw [h2] at hj
    obtain rfl : j = i := by simpa using hj
    refine wpOp_mono (fun a'' w'' hh => ⟨fun _ _ => hh.1, fun hm => by simp [hm] at h6, ?_⟩) ha
    obtain ⟨hb, S', hS, hm⟩ := hh
    exact wpAnyT_less (fun w3 h4 => hb.trans h4 hS) _ _ _ _ (planS_any hsel hQ last more _ S' a'' w'' h3 hm)

/-- The region, by one order. -/
theorem wp_region_set {id : Nat} {a : Act} {w : World} (S : Nat → Prop) (p : List (List Nat × Nat)) (last T : List Nat) (hm : P.follows .mixedOrders = true) (hsel : Region.noSelect ops = true)
    (hc : (planT ops last T (Array.replicate ops.size false) p && planTLen last T p == ops.size) = true) (hQ : ∀ c a t v w, Q (.panic c) (Act.put a (some t) v) w → Q (.panic c) a w)
    (h : wpS P ops Q last T p S a w.drew) : (Code.region id ops true).wp P Q a w := by
  simp only [Bool.and_eq_true, beq_iff_eq] at hc
  have := planS_any hsel hQ last p _ S a w.drew hc.1 h
  rw [hc.2] at this
  exact wp_region_any hm (wpAnyT_any _ _ _ _ this)

theorem set_cons {rs : List Nat} {i : Nat} {more : List (List Nat × Nat)} {last : List Nat} {S : Nat → Prop} {a : Act} {w : World} {l : List Oper} (hl : pick ops rs = l)
    (h : wpQuiet P ops (AfterS S w) (fun a' => wpOp P ops Q i (fun a'' w'' => Tch S w w'' ∧ ∃ S' : Nat → Prop, (∀ k, k < w.heap.size → S' k → S k) ∧ wpS P ops Q last T more S' a'' w'') a' w) l a) : wpS P ops Q last T ((rs, i) :: more) S a w := by
  subst hl; exact h
theorem set_last {last : List Nat} {S : Nat → Prop} {a : Act} {w : World} {l t : List Oper} (hl : pick ops last = l) (ht : pick ops T = t)
    (h : wpQuiet P ops (AfterS S w) (fun a' => wpList P ops Q t a' w) l a) : wpS P ops Q last T [] S a w := by
  subst hl ht; exact h

/-- A call of a Go function, by its contract; what may change behind it is chosen then. -/
theorem set_call {i : Nat} {S : Nat → Prop} {dst : Option Tmp} {f : FuncId} {args : Array Operand} {tys : Array TypeId} {ty : TypeId} {pos : String} {after : Array Edge} {guard : Option (Nat × Bool)} {a : Act} {w : World} {K : (Nat → Prop) → Act → World → Prop}
    (hf : ∀ (xs : Array Value) (w : World), (callFunc f xs).run P w = .ok (.enter f xs) w)
    (ho : ops[i]? = some { dst := dst, op := .call { callee := .value (.func f), args := args, argTypes := tys }, type := ty, pos := pos, after := after, guard := guard })
    (hw : Region.wanted { dst := dst, op := .call { callee := .value (.func f), args := args, argTypes := tys }, type := ty, pos := pos, after := after, guard := guard } (yielded ops a.tmps) = true)
    {vs : Array Value} (hvl : args.toList.map a.eval = vs.toList)
    {R : Value → World → Prop} (hc : Calls P f vs w (fun e w' => ∃ v, e = .returned v ∧ Tch S w w' ∧ R v w')) (hk : ∀ v w', Tch S w w' → R v w' → ∃ S' : Nat → Prop, (∀ k, k < w.heap.size → S' k → S k) ∧ K S' (a.put dst v) w') :
    wpOp P ops Q i (fun a'' w'' => Tch S w w'' ∧ ∃ S' : Nat → Prop, (∀ k, k < w.heap.size → S' k → S k) ∧ K S' a'' w'') a w := by
  unfold wpOp
  simp only [ho]
  rw [if_pos hw]
  refine .inl ?_
  have hvs : args.map a.eval = vs := Array.ext' (by simpa using hvl)
  subst hvs
  unfold Oper.wp
  rw [execOp_call_go, hf]
  simp only [Oper.upon, Array.empty_append, Array.append_empty]
  refine hc.mono fun e w' hh => ?_
  obtain ⟨v, rfl, h1, h2⟩ := hh
  exact ⟨h1, hk v w' h1 h2⟩

end

end Go.Proofs.YtbldlidpapdkbaaGreat

/- The contract of an arena's Clone. -/
namespace Go.Proofs.YtbldlidpapdkbaaGreat
open Go.RowKit

section
variable {w : World} {g base cap c : Nat} {A : Option Addr} {bs : List UInt8}
/-- A new arena. -/
def Cloned (base cap : Nat) (bs : List UInt8) (w : World) (e : Ending) (w' : World) : Prop :=
  ∃ g' A' c', e = .returned (.pointer (some ⟨g', 0, none⟩)) ∧ Ar w' 82 g' base cap A' c' bs ∧ Below w.heap.size w w' ∧ w.heap.size ≤ g' ∧ ∀ a, A' = some a → w.heap.size ≤ a.block

set_option maxRecDepth 100000 in
set_option maxHeartbeats 400000 in
theorem clone_any (h : Ar w 82 g base cap A c bs) (hl : bs.length ≤ 1000000) :
    Calls Tryz.prog 24 #[.pointer (some ⟨g, 0, none⟩)] w fun e w' => Cloned base cap bs w e w' := by
  obtain ⟨w0, hw0⟩ : ∃ w0, w.drew = w0 := ⟨_, rfl⟩
  have h0 : Ar w0 82 g base cap A c bs := by rw [← hw0]; exact h.drew
  have hz0 : w0.heap.size = w.heap.size := by rw [← hw0]; rfl
  have hb0 : Below w.heap.size w w0 := by rw [← hw0]; exact (Below.refl _ _).drew
  have hcz : A = none → c = 0 := fun e => by subst e; exact h.none_.2
  have HC := Lib.hid (sclone_any A c w0.heap.size bs w0 h0.reads (Nat.le_refl _) hcz hl)
  have HW0 := Lib.hid hw0
  have HB0 := Lib.hid hb0
  have HZ0 := Lib.hid hz0
  have H0 := Lib.hid h0
  clear hw0 h0 hz0 hb0 hcz h
  go_enter Tryz.func24, Tryz.ntmps24
  go_wp2_with fail
  refine wp_region_tail w0.heap.size [([0, 1, 2, 3, 4, 5, 6, 7, 8, 9, 10, 11], 12)] [13] [14, 15] (by kernel_rfl) (by kernel_rfl) (by kernel_rfl) (fun _ _ _ _ _ h => h) ?_
  rw [HW0.out]
  have t0 : ∀ x : LaterB w0.heap.size w0, x.val.cell? ⟨g, 0, none⟩ = some (.int .u64 (base : Int)) := fun x => (x.ext.cell (p := ⟨g, 0, none⟩) H0.out.lt).trans H0.out.c0
  have t1 : ∀ x : LaterB w0.heap.size w0, x.val.cell? ⟨g, 1, none⟩ = some (.int .i64 (cap : Int)) := fun x => (x.ext.cell (p := ⟨g, 1, none⟩) H0.out.lt).trans H0.out.c1
  have t2 : ∀ x : LaterB w0.heap.size w0, x.val.cell? ⟨g, 2, none⟩ = some (.slice A bs.length c) := fun x => (x.ext.cell (p := ⟨g, 2, none⟩) H0.out.lt).trans H0.out.c2
  refine tail_cons (l := ?seg1) ?hseg1 ?_
  case hseg1 => simp only [pick, List.getElem?_toArray, List.getElem?_cons_succ, List.getElem?_cons_zero]; rfl
  repeat (go_big_quiet_step (fail))
  refine wpQuiet_nil ?_
  clear t0 t1 t2
  refine tail_call (vs := #[.slice A bs.length c]) Tryz.call48 rfl rfl rfl (R := fun r w' => ∃ A' c', r = .slice A' bs.length c' ∧ w'.ownsRow w0.heap.size 5 1 (.slice A' bs.length c') bs.length (bs.map bv)) (HC.out.mono ?_) w0.heap.size (Nat.le_refl _) ?_
  · rintro e w' ⟨A', c', rfl, ho, hb⟩
    exact ⟨_, rfl, hb, A', c', rfl, ho⟩
  rintro r w1 hb1 ⟨A', c', rfl, ho⟩
  refine tail_last (l := ?la2) (t := ?tl2) ?hla2 ?htl2 ?_
  case hla2 => simp only [pick, List.getElem?_toArray, List.getElem?_cons_succ, List.getElem?_cons_zero]; rfl
  case htl2 => simp only [pick, List.getElem?_toArray, List.getElem?_cons_succ, List.getElem?_cons_zero]; rfl
  simp only [Act.put, List.setIfInBounds_toArray, List.set_cons_zero, List.set_cons_succ]
  repeat (go_big_quiet_step (fail))
  refine wpQuiet_nil ?_
  have HO := Lib.hid ho
  have HB1 := Lib.hid hb1
  clear ho hb1
  go_wp2
  go_ret
  have hb2 : Below w1.heap.size w1 (w1.alloc (.cells #[.int .u64 (base : Int), .int .i64 (cap : Int), .slice A' bs.length c'] 82)) := (Below.refl _ _).alloc (Nat.le_refl _) _
  refine ⟨w1.heap.size, A', c', rfl, ⟨heap_alloc_new w1 _, ?_⟩, ?_, ?_, ?_⟩
  · obtain ⟨h1, h2⟩ := own_below HO.out hb2
    refine ⟨h1, h2.imp id fun ⟨g', cap', cur, a, b, c⟩ => ⟨g', cap', cur, a, Nat.zero_le _, c⟩⟩
  · refine HB0.out.trans ?_
    rw [← HZ0.out]
    exact HB1.out.trans (hb2.mono HB1.out.size)
  · rw [← HZ0.out]; exact HB1.out.size
  · intro a e
    rw [← HZ0.out]
    exact (HO.out.lt a.block (by rw [e]; rfl)).1
end
end Go.Proofs.YtbldlidpapdkbaaGreat
