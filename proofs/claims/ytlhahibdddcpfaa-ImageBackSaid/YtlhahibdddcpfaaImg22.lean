/- The document's Get: it tells getG, whatever the bytes. -/
import Derived.Test.YtlhahibdddcpfaaImg21
namespace Go.Proofs.Ytlhahibdddcpfaa
open Go.RowKit

set_option maxRecDepth 100000 in
theorem rget_any (w : World) (A : Option Addr) (n c B : Nat) (b : List UInt8) (hr : Rd w B A n b) (hB : B ≤ w.heap.size) (hnc : n ≤ c) (hc : c ≤ 9223372036854775807) (hn : n ≤ 900000) :
    Calls Try.prog 15 #[.slice A n c] w fun e w' => GotR w (getG b) e w' := by
  have hbl : b.length = n := hr.1
  by_cases h28 : n < 28
  · have e0 : getG b = (3, 0, [], []) := by
      have : headG b = 3 := by unfold headG; rw [if_pos (by omega)]
      unfold getG
      rw [if_pos (by rw [this]; simp), this]
    rw [e0]
    exact (rget_short w A n c h28).mono fun e w' h => GotR.err h.1 h.2
  · by_cases hm : b.take 8 = markB
    · have hm2 : ((strB (b.take 8)).toList != (strB markB).toList) = false := by rw [hm]; exact str_self _
      cases hs : sumAt b 0 24 with
      | false =>
        have e0 : getG b = (9, 0, [], []) := by
          have : headG b = 9 := by unfold headG; rw [if_neg (by omega), if_neg (by simpa using hm), if_pos hs]
          unfold getG
          rw [if_pos (by rw [this]; simp), this]
        rw [e0]
        refine (rget_mark w A n c B b hr hB hnc hc hn (by omega) false hm2 false hs (.inr rfl)).mono fun e w' h => GotR.err ?_ h.2
        rw [h.1]
        rfl
      | true =>
        have ho : HeadOk b n (lenN b) (cntN b) := ⟨hbl, by omega, hm, hs, rfl, rfl⟩
        by_cases hb : 184 ≤ lenN b ∧ lenN b ≤ 16384 ∧ lenN b % 16 = 8 ∧ cntN b ≤ 1024 ∧ 32 + 8 * cntN b ≤ n
        · obtain ⟨k0, k1, k2, k3, k4⟩ := hb
          cases ht : sumAt b 28 (28 + 8 * cntN b) with
          | false =>
            rw [ho.tags ⟨k0, k1, k2, k3, k4⟩ ht]
            exact (rget_tags w A n c B b hr hB hnc hc hn (by omega) hm hs _ _ rfl rfl k0 k1 k2 k3 k4 ht).mono fun e w' h => GotR.err h.1 h.2
          | true => exact rget_main w A n c B b hr hB hnc hc hn (by omega) hm hs _ _ rfl rfl k0 k1 k2 k3 k4 ht _ rfl
        · rw [ho.bad hb]
          by_cases k0 : 184 ≤ lenN b
          · by_cases k1 : lenN b ≤ 16384
            · by_cases k2 : lenN b % 16 = 8
              · by_cases k3 : cntN b ≤ 1024
                · exact (rget_n5 w A n c B b hr hB hnc hc hn (by omega) hm hs _ _ rfl rfl k0 k1 k2 k3 (by omega)).mono fun e w' h => GotR.err h.1 h.2
                · exact (rget_n4 w A n c B b hr hB hnc hc hn (by omega) hm hs _ _ rfl rfl k0 k1 k2 (by omega)).mono fun e w' h => GotR.err h.1 h.2
              · exact (rget_n3 w A n c B b hr hB hnc hc hn (by omega) hm hs _ _ rfl rfl k0 k1 k2).mono fun e w' h => GotR.err h.1 h.2
            · exact (rget_n2 w A n c B b hr hB hnc hc hn (by omega) hm hs _ _ rfl rfl (by omega)).mono fun e w' h => GotR.err h.1 h.2
          · exact (rget_n1 w A n c B b hr hB hnc hc hn (by omega) hm hs _ _ rfl rfl (by omega)).mono fun e w' h => GotR.err h.1 h.2
    · have hm2 : ((strB (b.take 8)).toList != (strB markB).toList) = true := strB_neq hm
      have e0 : getG b = (3, 0, [], []) := by
        have : headG b = 3 := by unfold headG; rw [if_neg (by omega), if_pos hm]
        unfold getG
        rw [if_pos (by rw [this]; simp), this]
      rw [e0]
      refine (rget_mark w A n c B b hr hB hnc hc hn (by omega) true hm2 (sumAt b 0 24) rfl (.inl rfl)).mono fun e w' h => GotR.err ?_ h.2
      rw [h.1]
      rfl
end Go.Proofs.Ytlhahibdddcpfaa
