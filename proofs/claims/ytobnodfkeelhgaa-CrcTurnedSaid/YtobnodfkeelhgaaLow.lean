/- The contract of the document's own function that tells a number's lowest bytes. -/
import Derived.Test.YtobnodfkeelhgaaAppend
import Derived.Test.YtobnodfkeelhgaaChecked
import Derived.IntWalk
import Derived.Outline
import Derived.WalkSpells
namespace Go.Proofs.Ytobnodfkeelhgaa
open Go.RowKit

theorem u8_info : (Try.prog.info? 5).map (fun i => (i.zero, i.size, i.bytes)) = some (some (.int .u8 0), 1, 1) := by kernel_rfl

theorem low_div (v k q : Nat) (h : v / 256 ^ k = q) : Value.int .u64 ((q : Int) / 256) = Value.int .u64 ((v / 256 ^ (k + 1) : Nat) : Int) := by
  rw [Nat.pow_succ, ← Nat.div_div_eq_div_mul, h]; simp
theorem low_row (v k q : Nat) (h : v / 256 ^ k = q) : (lowB (k + 1) v).map bv = (lowB k v).map bv ++ [Value.int .u8 ((q : Int) % 256)] := by
  rw [lowB_snoc, List.map_append, h]
  simp only [List.map_cons, List.map_nil, bv, toNat_ofNat_mod]
  simp

set_option maxHeartbeats 400000 in
theorem refLow_any (v n : Nat) (w : World) (hn : n ≤ 8) (hv : v < 18446744073709551616) :
    Calls Try.prog 11 #[.int .u64 (v : Int), .int .i64 (n : Int)] w fun e w' => ∃ x, e = .returned x ∧ w'.ownsRow w.heap.size 5 1 x n ((lowB n v).map bv) ∧ Below w.heap.size w w' := by
  obtain ⟨i0, hi, hz0, hz1, hz2⟩ := info_parts u8_info
  go_enter Try.func11, Try.ntmps11
  go_wp2
  go_loopw [0, 5, 6] (fun q x i wr => ∃ k : Nat, k ≤ n ∧ i = .int .i64 k ∧ q = .int .u64 ((v / 256 ^ k : Nat) : Int) ∧ wr.ownsRow w.heap.size 5 1 x k ((lowB k v).map bv) ∧ Below w.heap.size w wr) (fun _ _ i _ => n - (intOf i).toNat)
  case atStart => exact ⟨0, Nat.zero_le _, rfl, by simp, World.ownsRow_nil _ _ _ _, Below.refl _ _⟩
  case round =>
    obtain ⟨k, hk, rfl, rfl, hown, hb⟩ := hrel
    by_cases hlt : k < n
    · have hq : v / 256 ^ k < 18446744073709551616 := Nat.lt_of_le_of_lt (Nat.div_le_self _ _) hv
      generalize hqq : v / 256 ^ k = q at *
      have HQ := Lib.hid hqq
      clear hqq
      have hm : 0 ≤ (q : Int) % 256 ∧ (q : Int) % 256 ≤ 255 := by omega
      obtain ⟨hm0, hm1⟩ := hm
      go_wp2_with (first
        | (at_builtin; refine wpList_append_own _ rfl _ _ 22 rfl w.heap.size 5 i0 (.int .u8 0) 1 1 Try.underlying22 hi hz0 hz1 hz2 rfl (by decide) _ _ _ rfl (hown.alloc _) ⟨wr.heap.size, 0, none⟩ 1 1 [.int .u8 ((q : Int) % 256)] rfl rfl ?c1 ?c2 ?c3 ?c4 ?c5 ?_))
      case c1 =>
        intro j u hj
        match j, hj with
        | 0, hj => simp at hj; subst hj; simp [Addr.add]
      case c2 => intro u hu; simp at hu; subst hu; rfl
      case c3 => unfold maxLen; omega
      case c4 => omega
      case c5 => have := hb.size; simp; omega
      intro x' w1 hown' hgrow _
      have hb1 : Below w.heap.size w w1 := (hb.alloc hb.size _).grown hgrow (by have := hb.size; simp; omega) (fun j hj => (hown.lt j hj).1)
      have Hown := Lib.hid hown'
      clear hown' hgrow
      go_wp2
      go_roundw
      case rel => exact ⟨k + 1, by omega, by go_num, low_div v k q HQ.out, by rw [low_row v k q HQ.out]; exact Hown.out, hb1⟩
      case measure => simp [intOf]; omega
    · go_wp2
      go_ret
      obtain rfl : k = n := by omega
      exact ⟨_, rfl, hown, hb⟩

theorem refLow_slice (v n : Nat) (w : World) (hn0 : 0 < n) (hn : n ≤ 8) (hv : v < 18446744073709551616) :
    Calls Try.prog 11 #[.int .u64 (v : Int), .int .i64 (n : Int)] w fun e w' => ∃ g cap, e = .returned (.slice (some ⟨g, 0, none⟩) n cap) ∧ Rd w' w'.heap.size (some ⟨g, 0, none⟩) n (lowB n v) ∧ Below w.heap.size w w' := by
  refine (refLow_any v n w hn hv).mono ?_
  rintro e w' ⟨x, rfl, hown, hb⟩
  have hlen : (lowB n v).length = n := lowB_length n v
  rcases hown.2 with ⟨_, h0⟩ | ⟨g, cap, cur, rfl, hg, hh, hnc, _, _, hcur⟩
  · omega
  · refine ⟨g, cap, rfl, ⟨hlen, fun _ => ⟨g, 0, rfl, (hown.lt g rfl).2, fun j u hu => ?_⟩⟩, hb⟩
    have hj : j < n := by
      rcases Nat.lt_or_ge j n with h1 | h1
      · exact h1
      · rw [List.getElem?_eq_none (by omega)] at hu; cases hu
    rw [Nat.zero_add, hown.cellAt j (by omega), List.getElem?_map, hu]
    rfl

end Go.Proofs.Ytobnodfkeelhgaa
