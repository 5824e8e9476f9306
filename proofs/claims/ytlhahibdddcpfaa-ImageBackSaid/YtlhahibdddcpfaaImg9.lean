/- The program's head of an image, whatever it is. -/
import Derived.Test.YtlhahibdddcpfaaImg8
import Derived.Test.YtlhahibdddcpfaaImgG
namespace Go.Proofs.Ytlhahibdddcpfaa
open Go.RowKit

theorem strB_ne {a m : List UInt8} (h : a ≠ m) : ((strB a).toList == m) = false := by
  unfold strB
  rw [beq_eq_false_iff_ne]
  simpa using h
def headV (b : List UInt8) : Value := if headG b = 0 then .tuple #[.int .i64 (lenN b : Int), .int .i64 (cntN b : Int), .nilIface] else .tuple #[.int .i64 0, .int .i64 0, .iface 52 (.int .i64 (headG b : Int))]
set_option maxRecDepth 100000 in
set_option maxHeartbeats 1000000 in
theorem imhead_any (w : World) (A : Option Addr) (n c B : Nat) (b : List UInt8) (hr : Rd w B A n b) (hnc : n ≤ c) (hc : c ≤ 9223372036854775807) (hn : n ≤ 900000) :
    Calls Try.prog 30 #[.slice A n c] w fun e w' => e = .returned (headV b) ∧ w = w' := by
  have hbl : b.length = n := hr.1
  unfold headV headG
  rw [hbl]
  by_cases h28 : n < 28
  · rw [if_pos h28]
    have g1 : decide (n < 28) = true := decide_eq_true h28
    clear hr hbl
    go_enter Try.func30, Try.ntmps30
    go_wp2
    go_ret3
    exact ⟨rfl, rfl⟩
  rw [if_neg h28]
  have g1 : decide (n < 28) = false := decide_eq_false h28
  by_cases hm : b.take 8 ≠ markB
  · rw [if_pos hm]
    obtain ⟨g, off, rfl, _⟩ := hr.2 (by omega)
    obtain ⟨sx, hsx⟩ : ∃ sx, strB (b.take 8) = sx := ⟨_, rfl⟩
    have q1 : (convert 31 9 (.slice (some ⟨g, off, none⟩) 8 c)).run Try.prog w = .ok (.string sx) w := by
      have h := hr.sub 0 8 (by omega)
      rw [List.drop_zero, Nat.add_zero] at h
      rw [← hsx]
      exact conv_rd (c := c) h
    have e1 := strB_ne hm
    rw [hsx] at e1
    unfold markB at e1
    have g3 : (8 : Int) ≤ (c : Int) := by omega
    clear hr hbl hm hsx
    go_enter Try.func30, Try.ntmps30
    go_wp2
    go_ret3
    exact ⟨rfl, rfl⟩
  have hm' : b.take 8 = markB := Decidable.byContradiction hm
  rw [if_neg hm]
  by_cases hs : sumAt b 0 24 = false
  · rw [if_pos hs]
    have HS := Lib.hid (imhas_any w A n c B b 0 24 hr hnc hc hn (by omega) (by omega) false hs)
    obtain ⟨g, off, rfl, _⟩ := hr.2 (by omega)
    have q1 : (convert 31 9 (.slice (some ⟨g, off, none⟩) 8 c)).run Try.prog w = .ok (.string ⟨#[67, 78, 84, 76, 1, 0, 0, 0]⟩) w := by
      have h := hr.sub 0 8 (by omega)
      rw [List.drop_zero, hm', Nat.add_zero] at h
      have h2 := conv_rd (c := c) h
      rw [markStr] at h2
      exact h2
    have g3 : (8 : Int) ≤ (c : Int) := by omega
    clear hr hbl hm hm' hs
    go_enter Try.func30, Try.ntmps30
    go_wp2_with fail
    refine HS.out.mono ?_
    rintro e w2 ⟨rfl, rfl⟩
    go_wp2
    go_ret3
    exact ⟨rfl, rfl⟩
  have hs' : sumAt b 0 24 = true := by simpa using hs
  rw [if_neg hs]
  by_cases hl : lenOk (lenN b : Int) = false ∨ 1024 < cntN b
  · have e : (if (if lenOk (lenN b : Int) = false then 3 else if 1024 < cntN b then 3 else 0) = 0 then Value.tuple #[.int .i64 (lenN b : Int), .int .i64 (cntN b : Int), .nilIface] else .tuple #[.int .i64 0, .int .i64 0, .iface 52 (.int .i64 (((if lenOk (lenN b : Int) = false then 3 else if 1024 < cntN b then 3 else 0) : Nat) : Int))]) = .tuple #[.int .i64 0, .int .i64 0, .iface 52 (.int .i64 3)] := by
      rcases hl with hl | hl
      · rw [if_pos hl]; rfl
      · rw [if_pos hl]; split <;> rfl
    rw [e]
    have HS := Lib.hid (imhas_any w A n c B b 0 24 hr hnc hc hn (by omega) (by omega) true hs')
    have HG1 := Lib.hid (get_yes A n c B b 8 w hr hnc (by omega) (by omega))
    have HG2 := Lib.hid (get_yes A n c B b 16 w hr hnc (by omega) (by omega))
    unfold lenN cntN at hl
    have hN2 : numB ((b.drop 8).take 8) < 18446744073709551616 := numB_lt64 _ (List.length_take_le _ _)
    have hK2 : numB ((b.drop 16).take 8) < 18446744073709551616 := numB_lt64 _ (List.length_take_le _ _)
    obtain ⟨N, hN⟩ : ∃ N, numB ((b.drop 8).take 8) = N := ⟨_, rfl⟩
    obtain ⟨K, hK⟩ : ∃ K, numB ((b.drop 16).take 8) = K := ⟨_, rfl⟩
    rw [hN] at HG1 hl hN2
    rw [hK] at HG2 hl hK2
    obtain ⟨g, off, rfl, _⟩ := hr.2 (by omega)
    have q1 : (convert 31 9 (.slice (some ⟨g, off, none⟩) 8 c)).run Try.prog w = .ok (.string ⟨#[67, 78, 84, 76, 1, 0, 0, 0]⟩) w := by
      have h := hr.sub 0 8 (by omega)
      rw [List.drop_zero, hm', Nat.add_zero] at h
      have h2 := conv_rd (c := c) h
      rw [markStr] at h2
      exact h2
    have g3 : (8 : Int) ≤ (c : Int) := by omega
    clear hr hbl hm hm' hs hs' hN hK e
    obtain ⟨y, hy⟩ : ∃ y, lenOk (N : Int) = y := ⟨_, rfl⟩
    have HL := Lib.hid (imlen_any w N hN2 y hy)
    rw [hy] at hl
    clear hy
    cases y with
    | false =>
      clear hl
      go_enter Try.func30, Try.ntmps30
      go_wp2_with fail
      refine HS.out.mono ?_
      rintro e w2 ⟨rfl, rfl⟩
      go_wp2_with fail
      refine HG1.out.mono ?_
      rintro e w2 ⟨rfl, rfl⟩
      go_wp2_with fail
      refine HG2.out.mono ?_
      rintro e w2 ⟨rfl, rfl⟩
      go_wp2_with fail
      refine HL.out.mono ?_
      rintro e w2 ⟨rfl, rfl⟩
      go_wp2
      go_ret3
      exact ⟨rfl, rfl⟩
    | true =>
      have hk : 1024 < K := hl.resolve_left (by simp)
      have g2 : decide (1024 < K) = true := decide_eq_true hk
      clear hl
      go_enter Try.func30, Try.ntmps30
      go_wp2_with fail
      refine HS.out.mono ?_
      rintro e w2 ⟨rfl, rfl⟩
      go_wp2_with fail
      refine HG1.out.mono ?_
      rintro e w2 ⟨rfl, rfl⟩
      go_wp2_with fail
      refine HG2.out.mono ?_
      rintro e w2 ⟨rfl, rfl⟩
      go_wp2_with fail
      refine HL.out.mono ?_
      rintro e w2 ⟨rfl, rfl⟩
      go_wp2
      go_ret3
      exact ⟨rfl, rfl⟩
  have hl1 : lenOk (lenN b : Int) = true := by
    cases h : lenOk (lenN b : Int) with
    | true => rfl
    | false => exact absurd (Or.inl h) hl
  have hl2 : cntN b ≤ 1024 := by
    refine Nat.le_of_not_lt fun h => hl (Or.inr h)
  have e : (if lenOk (lenN b : Int) = false then 3 else if 1024 < cntN b then 3 else 0) = 0 := by rw [hl1, if_neg (by simp), if_neg (by omega)]
  rw [e, if_pos rfl]
  exact imhead_ok w A n c B b hr hnc hc hn (by omega) hm' hs' _ _ rfl rfl hl1 hl2
end Go.Proofs.Ytlhahibdddcpfaa
