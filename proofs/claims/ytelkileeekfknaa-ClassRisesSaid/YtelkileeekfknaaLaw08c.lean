/- The walk of ClassRises: all ways. -/
import Derived.Test.YtelkileeekfknaaLaw08b
namespace Go.Proofs.Ytelkileeekfknaa
open Go.RowKit

theorem clr_any (HN : NeedC) (HC : ClassC) (w : World) (n m : Nat) (hn : n < 18446744073709551616) (hm : m < 18446744073709551616) (a b : Int) (ha : -9223372036854775808 ≤ a ∧ a ≤ 9223372036854775807) (hb : -9223372036854775808 ≤ b ∧ b ≤ 9223372036854775807) :
    Calls Try.prog 4 #[.int .u64 (n : Int), .int .u64 (m : Int), .int .i64 a, .int .i64 b] w fun e w' => e = .returned (.bool true) ∧ Below w.heap.size w w' := by
  have HU := Lib.hid (up8_any HN HC)
  have hN := fun W => HN W n hn
  have hM := fun W => HN W m hm
  have hA := fun W => HC W a ha
  have hB := fun W => HC W b hb
  have cb := classI_bounds b
  have small : ∀ x : Int, classI x = -1 ∨ ∃ c : Nat, classI x = (c : Int) ∧ c ≤ 21 ∧ 32 ≤ x ∧ x ≤ 16384 ∧ x % 16 = 0 := fun x => by
    cases hs : isSz x
    · exact .inl (by unfold classI; rw [if_pos hs])
    · have h1 := classI_bounds x
      have h2 : ¬ classI x < 0 := by rw [classI_neg]; simp [hs]
      have h3 := (isSz_iff x).1 hs
      exact .inr ⟨(classI x).toNat, by omega, by omega, h3⟩
  have none_of : ∀ x : Nat, needN x = none → 16368 < x := fun x h => by
    unfold needN at h
    split at h
    · cases h
    · omega
  rcases ea : needN n with _ | s
  · rw [ea] at hN
    obtain ⟨yi, yb, ey⟩ := needV_is (needN m)
    rw [ey] at hM
    rcases small a with fa | ⟨c, ec, hc, h1, h2, h3⟩
    · rw [fa] at hA
      have HD := Lib.hid hB
      by_cases k1 : a < 32
      · exact clr_nA HU w n m hm a b (none_of n ea) (Lib.hid hN) yi yb (Lib.hid hM) k1 (Lib.hid hA) _ cb HD
      · by_cases k2 : 16384 < a
        · exact clr_nB HU w n m hm a b (none_of n ea) (Lib.hid hN) yi yb (Lib.hid hM) k2 (Lib.hid hA) _ cb HD
        · refine clr_nC HU w n m hm a b (none_of n ea) (Lib.hid hN) yi yb (Lib.hid hM) ⟨by omega, by omega⟩ (fun e => ?_) (Lib.hid hA) _ cb HD
          have : isSz a = true := (isSz_iff a).2 ⟨by omega, by omega, e⟩
          have := (classI_neg a).1 (by omega)
          simp_all
    · rw [ec] at hA
      rcases small b with eb | ⟨d, ed, hd, i1, i2, i3⟩
      · rw [eb] at hB
        exact clr_nD HU w n m hm a b (none_of n ea) (Lib.hid hN) yi yb (Lib.hid hM) ⟨h1, h2⟩ h3 c hc (Lib.hid hA) (Lib.hid hB)
      · rw [ed] at hB
        by_cases hab : b < a
        · exact clr_nE HU w n m hm a b (none_of n ea) (Lib.hid hN) yi yb (Lib.hid hM) ⟨h1, h2⟩ h3 c hc (Lib.hid hA) d hd (Lib.hid hB) hab
        · have hcd := classI_mono ((isSz_iff a).2 ⟨h1, h2, h3⟩) ((isSz_iff b).2 ⟨i1, i2, i3⟩) (by omega)
          rw [ec, ed] at hcd
          exact clr_nF HU w n m hm a b (none_of n ea) (Lib.hid hN) yi yb (Lib.hid hM) ⟨h1, h2⟩ h3 c hc (Lib.hid hA) d hd (Lib.hid hB) (by omega) (by omega)
  · obtain ⟨q1, q2, q3, q4, _⟩ := needN_some ea
    have q5 := (isSz_iff _).1 q2
    rw [ea] at hN
    have hK := fun W => HC W (s : Int) (by omega)
    obtain ⟨cs, ecs⟩ : ∃ cs : Nat, classI (s : Int) = (cs : Int) := by
      rcases small (s : Int) with e | ⟨c, ec, _⟩
      · have := (classI_neg (s : Int)).1 (by omega)
        rw [q2] at this; cases this
      · exact ⟨c, ec⟩
    rw [ecs] at hK
    rcases em : needN m with _ | t
    · rw [em] at hM
      rcases small a with fa | ⟨c, ec, hc, h1, h2, h3⟩
      · rw [fa] at hA
        have HD := Lib.hid hB
        by_cases k1 : a < 32
        · exact clr_pA HU w n m hm a b s cs q1 q3 q4 (by omega) (by omega) (Lib.hid hN) (Lib.hid hK) (Lib.hid hM) k1 (Lib.hid hA) _ cb HD
        · by_cases k2 : 16384 < a
          · exact clr_pB HU w n m hm a b s cs q1 q3 q4 (by omega) (by omega) (Lib.hid hN) (Lib.hid hK) (Lib.hid hM) k2 (Lib.hid hA) _ cb HD
          · refine clr_pC HU w n m hm a b s cs q1 q3 q4 (by omega) (by omega) (Lib.hid hN) (Lib.hid hK) (Lib.hid hM) ⟨by omega, by omega⟩ (fun e => ?_) (Lib.hid hA) _ cb HD
            have : isSz a = true := (isSz_iff a).2 ⟨by omega, by omega, e⟩
            have := (classI_neg a).1 (by omega)
            simp_all
      · rw [ec] at hA
        rcases small b with eb | ⟨d, ed, hd, i1, i2, i3⟩
        · rw [eb] at hB
          exact clr_pD HU w n m hm a b s cs q1 q3 q4 (by omega) (by omega) (Lib.hid hN) (Lib.hid hK) (Lib.hid hM) ⟨h1, h2⟩ h3 c hc (Lib.hid hA) (Lib.hid hB)
        · rw [ed] at hB
          by_cases hab : b < a
          · exact clr_pE HU w n m hm a b s cs q1 q3 q4 (by omega) (by omega) (Lib.hid hN) (Lib.hid hK) (Lib.hid hM) ⟨h1, h2⟩ h3 c hc (Lib.hid hA) d hd (Lib.hid hB) hab
          · have hcd := classI_mono ((isSz_iff a).2 ⟨h1, h2, h3⟩) ((isSz_iff b).2 ⟨i1, i2, i3⟩) (by omega)
            rw [ec, ed] at hcd
            exact clr_pF HU w n m hm a b s cs q1 q3 q4 (by omega) (by omega) (Lib.hid hN) (Lib.hid hK) (Lib.hid hM) ⟨h1, h2⟩ h3 c hc (Lib.hid hA) d hd (Lib.hid hB) (by omega) (by omega)
    · rw [em] at hM
      by_cases hnm : n ≤ m
      · rcases small a with fa | ⟨c, ec, hc, h1, h2, h3⟩
        · rw [fa] at hA
          have HD := Lib.hid hB
          by_cases k1 : a < 32
          · exact clr_qA HU w n m hm a b s cs q1 q3 q4 (by omega) (by omega) (Lib.hid hN) (Lib.hid hK) t hnm (needN_le ea em hnm) (Lib.hid hM) k1 (Lib.hid hA) _ cb HD
          · by_cases k2 : 16384 < a
            · exact clr_qB HU w n m hm a b s cs q1 q3 q4 (by omega) (by omega) (Lib.hid hN) (Lib.hid hK) t hnm (needN_le ea em hnm) (Lib.hid hM) k2 (Lib.hid hA) _ cb HD
            · refine clr_qC HU w n m hm a b s cs q1 q3 q4 (by omega) (by omega) (Lib.hid hN) (Lib.hid hK) t hnm (needN_le ea em hnm) (Lib.hid hM) ⟨by omega, by omega⟩ (fun e => ?_) (Lib.hid hA) _ cb HD
              have : isSz a = true := (isSz_iff a).2 ⟨by omega, by omega, e⟩
              have := (classI_neg a).1 (by omega)
              simp_all
        · rw [ec] at hA
          rcases small b with eb | ⟨d, ed, hd, i1, i2, i3⟩
          · rw [eb] at hB
            exact clr_qD HU w n m hm a b s cs q1 q3 q4 (by omega) (by omega) (Lib.hid hN) (Lib.hid hK) t hnm (needN_le ea em hnm) (Lib.hid hM) ⟨h1, h2⟩ h3 c hc (Lib.hid hA) (Lib.hid hB)
          · rw [ed] at hB
            by_cases hab : b < a
            · exact clr_qE HU w n m hm a b s cs q1 q3 q4 (by omega) (by omega) (Lib.hid hN) (Lib.hid hK) t hnm (needN_le ea em hnm) (Lib.hid hM) ⟨h1, h2⟩ h3 c hc (Lib.hid hA) d hd (Lib.hid hB) hab
            · have hcd := classI_mono ((isSz_iff a).2 ⟨h1, h2, h3⟩) ((isSz_iff b).2 ⟨i1, i2, i3⟩) (by omega)
              rw [ec, ed] at hcd
              exact clr_qF HU w n m hm a b s cs q1 q3 q4 (by omega) (by omega) (Lib.hid hN) (Lib.hid hK) t hnm (needN_le ea em hnm) (Lib.hid hM) ⟨h1, h2⟩ h3 c hc (Lib.hid hA) d hd (Lib.hid hB) (by omega) (by omega)
      · rcases small a with fa | ⟨c, ec, hc, h1, h2, h3⟩
        · rw [fa] at hA
          have HD := Lib.hid hB
          by_cases k1 : a < 32
          · exact clr_rA HU w n m hm a b s cs q1 q3 q4 (by omega) (by omega) (Lib.hid hN) (Lib.hid hK) t (by omega) (Lib.hid hM) k1 (Lib.hid hA) _ cb HD
          · by_cases k2 : 16384 < a
            · exact clr_rB HU w n m hm a b s cs q1 q3 q4 (by omega) (by omega) (Lib.hid hN) (Lib.hid hK) t (by omega) (Lib.hid hM) k2 (Lib.hid hA) _ cb HD
            · refine clr_rC HU w n m hm a b s cs q1 q3 q4 (by omega) (by omega) (Lib.hid hN) (Lib.hid hK) t (by omega) (Lib.hid hM) ⟨by omega, by omega⟩ (fun e => ?_) (Lib.hid hA) _ cb HD
              have : isSz a = true := (isSz_iff a).2 ⟨by omega, by omega, e⟩
              have := (classI_neg a).1 (by omega)
              simp_all
        · rw [ec] at hA
          rcases small b with eb | ⟨d, ed, hd, i1, i2, i3⟩
          · rw [eb] at hB
            exact clr_rD HU w n m hm a b s cs q1 q3 q4 (by omega) (by omega) (Lib.hid hN) (Lib.hid hK) t (by omega) (Lib.hid hM) ⟨h1, h2⟩ h3 c hc (Lib.hid hA) (Lib.hid hB)
          · rw [ed] at hB
            by_cases hab : b < a
            · exact clr_rE HU w n m hm a b s cs q1 q3 q4 (by omega) (by omega) (Lib.hid hN) (Lib.hid hK) t (by omega) (Lib.hid hM) ⟨h1, h2⟩ h3 c hc (Lib.hid hA) d hd (Lib.hid hB) hab
            · have hcd := classI_mono ((isSz_iff a).2 ⟨h1, h2, h3⟩) ((isSz_iff b).2 ⟨i1, i2, i3⟩) (by omega)
              rw [ec, ed] at hcd
              exact clr_rF HU w n m hm a b s cs q1 q3 q4 (by omega) (by omega) (Lib.hid hN) (Lib.hid hK) t (by omega) (Lib.hid hM) ⟨h1, h2⟩ h3 c hc (Lib.hid hA) d hd (Lib.hid hB) (by omega) (by omega)

end Go.Proofs.Ytelkileeekfknaa
