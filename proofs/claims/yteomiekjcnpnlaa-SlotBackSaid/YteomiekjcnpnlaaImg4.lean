/- The program's images: slices.Grow of nothing, slices.Concat, bytes with their sum behind. -/
import Derived.Test.YteomiekjcnpnlaaImg3
import Derived.Test.YteomiekjcnpnlaaW4
import Derived.Test.YteomiekjcnpnlaaSums
import Derived.Test.YteomiekjcnpnlaaZeros
import Derived.Deep.DeepMust
namespace Go.Proofs.Yteomiekjcnpnlaa
open Go.RowKit

theorem u8_inf4 : (Try.prog.info? 5).map (fun i => (i.zero, i.size, i.bytes)) = some (some (.int .u8 0), 1, 1) := by kernel_rfl
theorem own_head {w : World} {B n c : Nat} {A : Option Addr} {xs : List Value} {t : TypeId} (h : w.ownsRow B t 1 (.slice A n c) n xs) (hn : 0 < n) : w.ownsRow B t 1 (.slice A 0 c) 0 [] := by
  rcases h.2 with ⟨_, h0⟩ | ⟨g, cap, cur, hv, hg, hh, hnc, hcm, hcs, ht⟩
  · omega
  · injection hv with e1 e2 e3
    subst e1 e3
    exact ⟨rfl, .inr ⟨g, c, cur, rfl, hg, hh, Nat.zero_le _, hcm, hcs, by simp⟩⟩
set_option maxRecDepth 100000 in
set_option maxHeartbeats 400000 in
theorem sgrow_any (w : World) (n : Nat) (hn : n ≤ 1000000) :
    Calls Try.prog 22 #[.slice none 0 0, .int .i64 (n : Int)] w fun e w' => ∃ A c, e = .returned (.slice A 0 c) ∧ w'.ownsRow w.heap.size 5 1 (.slice A 0 c) 0 (([] : List UInt8).map bv) ∧ Below w.heap.size w w' := by
  by_cases h0 : n = 0
  · subst h0
    go_enter Try.func22, Try.ntmps22
    go_wp2
    go_ret
    exact ⟨none, 0, rfl, World.ownsRow_nil _ _ _ _, Below.refl _ _⟩
  · obtain ⟨A', c', w2, hr, hown, hgr, _⟩ := run_append_zeros (P := Try.prog) w 24 3 24 5 .i64 Try.underlying24 Try.underlying3 u8_inf4 w.heap.size none 0 [] (World.ownsRow_nil _ _ _ _) n (by simp; omega) (Nat.le_refl _)
    simp only [List.length_nil, Nat.zero_add] at hr hown
    have hfin : w2.ownsRow w.heap.size 5 1 (.slice A' 0 c') 0 (([] : List UInt8).map bv) := own_head hown (by omega)
    have hbel : Below w.heap.size w w2 := (Below.refl _ _).grown hgr (Nat.le_refl _) (fun k hk => by cases hk)
    have hnc : n ≤ c' := by
      rcases hown.2 with ⟨_, h'⟩ | ⟨g, cap, cur, hv, _, _, h', _⟩
      · omega
      · injection hv with _ _ e3
        subst e3
        exact h'
    have hA : ∃ g, A' = some ⟨g, 0, none⟩ := by
      rcases hown.2 with ⟨_, h'⟩ | ⟨g, cap, cur, hv, _⟩
      · omega
      · injection hv with e1 _ _
        exact ⟨g, e1⟩
    obtain ⟨g, rfl⟩ := hA
    have h1 : decide (0 < n) = true := decide_eq_true (by omega)
    have HR := Lib.hid hr
    have HF := Lib.hid hfin
    have HB := Lib.hid hbel
    clear hr hfin hbel hown hgr h0
    go_enter Try.func22, Try.ntmps22
    go_wp2_with (at_builtin; refine Lib.wpList_append_run _ rfl (.tmp 20) (.tmp 21) 24 3 rfl _ _ rfl rfl _ _ HR.out ?_)
    go_ret
    exact ⟨some ⟨g, 0, none⟩, c', rfl, HF.out, HB.out⟩
theorem flat_len_take (d : List (List UInt8)) (j : Nat) : (d.take j).flatten.length ≤ d.flatten.length := by
  have h := congrArg (fun l : List (List UInt8) => l.flatten.length) (List.take_append_drop j d)
  simp only [List.flatten_append, List.length_append] at h
  omega
set_option maxRecDepth 100000 in
set_option maxHeartbeats 2000000 in
theorem concat_any (w : World) (A : Option Addr) (k : Nat) (d : List (List UInt8)) (hd : DtRd w w.heap.size A d) (hl : d.length ≤ 1000) (hs : d.flatten.length ≤ 1000000) :
    Calls Try.prog 14 #[.slice A d.length k] w fun e w' => ∃ v, e = .returned v ∧ w'.ownsRow w.heap.size 5 1 v d.flatten.length (d.flatten.map bv) ∧ Below w.heap.size w w' := by
  have HD := Lib.hid hd
  have HS := Lib.hid (fun j => Nat.le_trans (flat_len_take d j) hs)
  have HGR := Lib.hid (sgrow_any w d.flatten.length hs)
  obtain ⟨m, hm⟩ : ∃ m, d.length = m := ⟨_, rfl⟩
  rw [hm] at hl ⊢
  have HM := Lib.hid hm
  obtain ⟨sz, hsz⟩ : ∃ sz, d.flatten.length = sz := ⟨_, rfl⟩
  rw [hsz] at HGR hs ⊢
  have HSZ := Lib.hid hsz
  clear hd hm hsz
  go_enter Try.func14, Try.ntmps14
  go_wp2
  go_loopw [3, 11] (fun v t wr => ∃ (j s : Nat), t = .int .i64 (j : Int) ∧ v = .int .i64 (s : Int) ∧ j ≤ m ∧ s = (d.take j).flatten.length ∧ w = wr) (fun _ t _ => m - (intOf t).toNat)
  case atStart => exact ⟨0, 0, rfl, rfl, Nat.zero_le _, rfl, rfl⟩
  case round =>
    obtain ⟨j, s, rfl, rfl, hj, hss, rfl⟩ := hrel
    by_cases hlt : j < m
    · obtain ⟨y, hy⟩ : ∃ y, d[j]? = some y := ⟨d[j]'(by rw [HM.out]; exact hlt), List.getElem?_eq_getElem _⟩
      obtain ⟨b, o, rfl, hb, hc⟩ := HD.out (by rw [HM.out]; omega)
      obtain ⟨A', k', c0, _⟩ := hc j y hy
      obtain ⟨n, hn⟩ : ∃ n, y.length = n := ⟨_, rfl⟩
      rw [hn] at c0
      have hs1 := HS.out (j + 1)
      rw [flat_take hy, List.length_append, hn, ← hss] at hs1
      have HN : Hid (s + n = (d.take (j + 1)).flatten.length) := (show _ = _ by rw [flat_take hy, List.length_append, hn, ← hss])
      have h0 : decide ((s : Int) + (n : Int) < 0) = false := decide_eq_false (by omega)
      clear hc hy hn hss
      go_wp2
      go_roundw
      case rel => exact ⟨j + 1, s + n, by go_num, by go_num, by omega, HN.out, trivial⟩
      case measure => simp only [intOf]; omega
    · have e : s = sz := by rw [hss, List.take_of_length_le (by rw [HM.out]; omega), HSZ.out]
      subst e
      clear hss
      go_wp2_with fail
      refine HGR.out.mono ?_
      rintro e w2 ⟨A2, c2, rfl, hown2, hb2⟩
      have HO2 := Lib.hid hown2
      have HB2 := Lib.hid hb2
      clear hown2 hb2 HGR
      go_wp2
      go_loopw [6, 27] (fun v t wr => ∃ (j : Nat), t = .int .i64 (j : Int) ∧ j ≤ m ∧ wr.ownsRow w.heap.size 5 1 v (d.take j).flatten.length ((d.take j).flatten.map bv) ∧ Below w.heap.size w wr) (fun _ t _ => m - (intOf t).toNat)
      case atStart => exact ⟨0, rfl, Nat.zero_le _, HO2.out, HB2.out⟩
      case round =>
        obtain ⟨i, rfl, hi, hown, hb⟩ := hrel
        by_cases hlt2 : i < m
        · obtain ⟨y, hy⟩ : ∃ y, d[i]? = some y := ⟨d[i]'(by rw [HM.out]; exact hlt2), List.getElem?_eq_getElem _⟩
          obtain ⟨b, o, rfl, hbb, hc⟩ := HD.out (by rw [HM.out]; omega)
          obtain ⟨A', k', c0, hrd, _, _, hA⟩ := hc i y hy
          have c1 := (hb.cell (p := ⟨b, o + i, none⟩) hbb).trans c0
          have hs1 := HS.out (i + 1)
          rw [flat_take hy, List.length_append] at hs1
          have HFL := Lib.hid (flat_take hy)
          have HRD := Lib.hid ((hrd.below hb).more hb.size)
          obtain ⟨n, hn⟩ : ∃ n, y.length = n := ⟨_, rfl⟩
          have HYN := Lib.hid hn
          obtain ⟨q, hq⟩ : ∃ q, (d.take i).flatten.length = q := ⟨_, rfl⟩
          rw [hq] at hown hs1
          have HQ := Lib.hid hq
          rw [hn] at c0 c1 hs1 HRD
          have HO := Lib.hid hown
          have HB := Lib.hid hb
          clear hc hy hn hown hb hrd hq
          go_wp2_with (first
            | (at_builtin; go_must (refine append_bytes rfl (.tmp 31) (.tmp 32) 24 5 rfl Try.underlying24 u8_inf4 w.heap.size _ q (d.take i).flatten rfl HO.out _ A' n k' y rfl HRD.out hA (by omega) HB.out.size ?_); intro x4 w4 own4 hb4 _;
               have HX4 : Hid (w4.ownsRow w.heap.size 5 1 x4 (q + n) (((d.take i).flatten ++ y).map bv) ∧ Below w.heap.size w w4) := ⟨own4, HB.out.trans hb4⟩; clear own4 hb4)
            | fail)
          go_roundw
          case rel =>
            refine ⟨i + 1, by go_num, by omega, ?_, HX4.out.2⟩
            rw [HFL.out, List.length_append, HQ.out, HYN.out]
            exact HX4.out.1
          case measure => simp only [intOf]; omega
        · have e : d.take i = d := List.take_of_length_le (by rw [HM.out]; omega)
          rw [e, HSZ.out] at hown
          have HO := Lib.hid hown
          have HB := Lib.hid hb
          clear hown hb e
          go_wp2
          go_ret
          exact ⟨_, rfl, HO.out, HB.out⟩
end Go.Proofs.Yteomiekjcnpnlaa
