/- The contracts of the functions that tell a sum: the program's and the document's. -/
import Derived.Test.YteomiekjcnpnlaaMem
import Derived.Test.YteomiekjcnpnlaaCrc
import Derived.Test.YteomiekjcnpnlaaChecked
import Derived.IntWalk
import Derived.Outline
namespace Go.Proofs.Yteomiekjcnpnlaa
open Go.RowKit

theorem wrap_u32_id (n : Nat) (h : n < 4294967296) : IntKind.u32.wrap (n : Int) = (n : Int) := by
  have : IntKind.u32.wrap (n : Int) = (n : Int) % 4294967296 := by simp [IntKind.wrap, IntKind.bits, IntKind.signed]
  omega

theorem bits_xor_u32 (a b : Nat) (ha : a < 4294967296) (hb : b < 4294967296) : bits .xor .u32 (a : Int) (b : Int) = ((a ^^^ b : Nat) : Int) := by
  have hx : a ^^^ b < 4294967296 := xor_lt32 ha hb
  have h1 : (BitVec.ofInt 32 (a : Int)).toNat = a := by
    rw [BitVec.ofInt_natCast, BitVec.toNat_ofNat]; exact Nat.mod_eq_of_lt ha
  have h2 : (BitVec.ofInt 32 (b : Int)).toNat = b := by
    rw [BitVec.ofInt_natCast, BitVec.toNat_ofNat]; exact Nat.mod_eq_of_lt hb
  show IntKind.u32.wrap ((BitVec.ofInt 32 (a : Int) ^^^ BitVec.ofInt 32 (b : Int)).toNat : Int) = _
  rw [BitVec.toNat_xor, h1, h2, wrap_u32_id _ hx]

theorem bits_and_u32 (a : Nat) (ha : a < 4294967296) : bits .and .u32 (a : Int) 1 = ((a % 2 : Nat) : Int) := by
  have h1 : (BitVec.ofInt 32 (a : Int)).toNat = a := by
    rw [BitVec.ofInt_natCast, BitVec.toNat_ofNat]; exact Nat.mod_eq_of_lt ha
  show IntKind.u32.wrap ((BitVec.ofInt 32 (a : Int) &&& BitVec.ofInt 32 1).toNat : Int) = _
  rw [BitVec.toNat_and, h1, show (BitVec.ofInt 32 1).toNat = 1 from rfl, Nat.and_one_is_mod, wrap_u32_id _ (by omega)]

theorem step_even (q : Nat) (h : q % 2 = 0) : Value.int .u32 ((q : Int) / 2) = .int .u32 ((step1 q : Nat) : Int) := by
  unfold step1
  rw [if_neg (by omega), Nat.xor_zero]
  simp
theorem step_odd (q : Nat) (hq : q < 4294967296) (h : q % 2 = 1) : Value.int .u32 (bits .xor .u32 ((q : Int) / 2) 3988292384) = .int .u32 ((step1 q : Nat) : Int) := by
  unfold step1
  rw [if_pos h, ← bits_xor_u32 _ _ (by omega) (by omega)]
  simp
theorem start_xor (r x : Nat) (hr : r < 4294967296) (hx : x < 256) : Value.int .u32 (bits .xor .u32 (r : Int) (x : Int)) = .int .u32 ((r ^^^ x : Nat) : Int) := by
  rw [bits_xor_u32 _ _ hr (by omega)]
theorem ret_u32 {a b : Nat} (h : a = b) : Ending.returned (.int .u32 (a : Int)) = .returned (.int .u32 (b : Int)) := by rw [h]
theorem int_u32 {a b : Nat} (h : a = b) : Value.int .u32 (a : Int) = .int .u32 (b : Int) := by rw [h]

set_option maxHeartbeats 400000 in
theorem take_any (r x : Nat) (w : World) (hr : r < 4294967296) (hx : x < 256) :
    Calls Try.prog 28 #[.int .u32 (r : Int), .int .u8 (x : Int)] w fun e w' => e = .returned (.int .u32 (takeN r x : Int)) ∧ w = w' := by
  go_enter Try.func28, Try.ntmps28
  go_wp2
  go_loop [0, 10] (fun v i => ∃ k : Nat, k ≤ 8 ∧ i = .int .i64 k ∧ v = .int .u32 (stepN k (r ^^^ x) : Int)) (fun _ i => 8 - (intOf i).toNat)
  case atStart => exact ⟨0, by omega, rfl, start_xor r x hr hx⟩
  case round =>
    obtain ⟨k, hk, rfl, rfl⟩ := hrel
    by_cases hlt : k < 8
    · have hs := stepN_lt k (xor_lt32 hr (show x < 4294967296 by omega))
      have hn := stepN_succ k (r ^^^ x)
      generalize stepN k (r ^^^ x) = q at *
      have HN := Lib.hid hn
      clear hn
      have ha := bits_and_u32 q hs
      rcases Nat.mod_two_eq_zero_or_one q with hq | hq
      · have hb : (bits BinOp.and IntKind.u32 (q : Int) 1 == 1) = false := by rw [ha, hq]; rfl
        clear ha
        go_wp2
        go_round
        case rel => exact ⟨k + 1, by omega, by go_num, by rw [HN.out]; exact step_even q hq⟩
        case measure => simp [intOf]; omega
      · have hb : (bits BinOp.and IntKind.u32 (q : Int) 1 == 1) = true := by rw [ha, hq]; rfl
        clear ha
        go_wp2
        go_round
        case rel => exact ⟨k + 1, by omega, by go_num, by rw [HN.out]; exact step_odd q hs hq⟩
        case measure => simp [intOf]; omega
    · go_wp2
      go_ret
      obtain rfl : k = 8 := by omega
      exact ⟨rfl, rfl⟩

set_option maxHeartbeats 400000 in
theorem refTake_any (r x : Nat) (w : World) (hr : r < 4294967296) (hx : x < 256) :
    Calls Try.prog 30 #[.int .u32 (r : Int), .int .u8 (x : Int)] w fun e w' => e = .returned (.int .u32 (takeN r x : Int)) ∧ w = w' := by
  go_enter Try.func30, Try.ntmps30
  go_wp2
  go_loop [0, 5] (fun v i => ∃ k : Nat, k ≤ 8 ∧ i = .int .i64 k ∧ v = .int .u32 (stepN k (r ^^^ x) : Int)) (fun _ i => 8 - (intOf i).toNat)
  case atStart => exact ⟨0, by omega, rfl, start_xor r x hr hx⟩
  case round =>
    obtain ⟨k, hk, rfl, rfl⟩ := hrel
    by_cases hlt : k < 8
    · have hs := stepN_lt k (xor_lt32 hr (show x < 4294967296 by omega))
      have hn := stepN_succ k (r ^^^ x)
      generalize stepN k (r ^^^ x) = q at *
      have HN := Lib.hid hn
      clear hn
      rcases Nat.mod_two_eq_zero_or_one q with hq | hq
      · have hb : ((q : Int) % 2 == 1) = false := by rw [beq_eq_false_iff_ne]; omega
        go_wp2
        go_round
        case rel => exact ⟨k + 1, by omega, by go_num, by rw [HN.out]; exact step_even q hq⟩
        case measure => simp [intOf]; omega
      · have hb : ((q : Int) % 2 == 1) = true := by rw [beq_iff_eq]; omega
        go_wp2
        go_round
        case rel => exact ⟨k + 1, by omega, by go_num, by rw [HN.out]; exact step_odd q hs hq⟩
        case measure => simp [intOf]; omega
    · go_wp2
      go_ret
      obtain rfl : k = 8 := by omega
      exact ⟨rfl, rfl⟩

theorem fold_snoc (r : Nat) (bs : List UInt8) (k : Nat) (h : k < bs.length) : takeN (foldN r (bs.take k)) bs[k].toNat = foldN r (bs.take (k + 1)) := by
  rw [List.take_succ_eq_append_getElem h, foldN_append]
  rfl

theorem xor_ones (s : Nat) (hs : s < 4294967296) : 4294967295 ^^^ s = 4294967295 - s := by
  apply Nat.eq_of_testBit_eq
  intro i
  have h1 : (4294967295 : Nat) = 2 ^ 32 - 1 := rfl
  have h2 : 4294967295 - s = 2 ^ 32 - (s + 1) := by omega
  rw [h2, Nat.testBit_two_pow_sub_succ (show s < 2 ^ 32 from hs), Nat.testBit_xor, h1, Nat.testBit_two_pow_sub_one]
  by_cases hi : i < 32
  · simp [hi]
  · have : s.testBit i = false := Nat.testBit_lt_two_pow (Nat.lt_of_lt_of_le hs (Nat.pow_le_pow_right (by omega) (by omega) : 2 ^ 32 ≤ 2 ^ i))
    simp [hi, this]

theorem not_u32 (s : Nat) (hs : s < 4294967296) : bits BinOp.xor IntKind.u32 IntKind.u32.max (s : Int) = ((4294967295 - s : Nat) : Int) := by
  rw [← xor_ones s hs, ← bits_xor_u32 _ _ (by omega) hs]
  rfl

set_option maxHeartbeats 400000 in
theorem more_any (A : Option Addr) (n c B s : Nat) (bs : List UInt8) (w : World) (hrd : Rd w B A n bs) (hn : n ≤ 1000000) (hs : s < 4294967296) :
    Calls Try.prog 24 #[.int .u32 (s : Int), .slice A n c] w fun e w' => e = .returned (.int .u32 (moreN s bs : Int)) ∧ w = w' := by
  have hbs : bs.length = n := hrd.1
  go_enter Try.func24, Try.ntmps24
  go_wp2
  go_loop [5, 12] (fun v i => ∃ k : Nat, k ≤ n ∧ i = .int .i64 k ∧ v = .int .u32 (foldN (4294967295 - s) (bs.take k) : Int)) (fun _ i => n - (intOf i).toNat)
  case atStart => exact ⟨0, by omega, rfl, by rw [not_u32 s hs]; rfl⟩
  case round =>
    obtain ⟨k, hk, rfl, rfl⟩ := hrel
    have hf := foldN_lt (r := 4294967295 - s) (bs.take k) (by omega)
    by_cases hlt : k < n
    · obtain ⟨b, off, rfl, hb, hl, hc⟩ := hrd.at_ hlt
      have hx := bs[k].toNat_lt
      have hsn := fold_snoc (4294967295 - s) bs k hl
      generalize foldN (4294967295 - s) (bs.take k) = q at *
      generalize bs[k].toNat = x at *
      go_wp2_with fail
      refine (take_any q x _ hf hx).mono ?_
      rintro e w1 ⟨rfl, rfl⟩
      go_wp2
      go_round
      case rel => exact ⟨k + 1, by omega, by go_num, rfl⟩
      case measure => simp [intOf]; omega
    · have hall : bs.take k = bs := List.take_of_length_le (by omega)
      rw [hall] at hf ⊢
      go_wp2
      go_ret
      exact ⟨by rw [not_u32 _ hf]; rfl, rfl⟩

set_option maxHeartbeats 400000 in
theorem refMore_any (A : Option Addr) (n c B s : Nat) (bs : List UInt8) (w : World) (hrd : Rd w B A n bs) (hn : n ≤ 1000000) (hs : s < 4294967296) :
    Calls Try.prog 29 #[.int .u32 (s : Int), .slice A n c] w fun e w' => e = .returned (.int .u32 (moreN s bs : Int)) ∧ w = w' := by
  have hbs : bs.length = n := hrd.1
  go_enter Try.func29, Try.ntmps29
  go_wp2
  go_loop [5, 6] (fun v i => ∃ k : Nat, k ≤ n ∧ i = .int .i64 k ∧ v = .int .u32 (foldN (4294967295 - s) (bs.take k) : Int)) (fun _ i => n - (intOf i).toNat)
  case atStart => exact ⟨0, by omega, rfl, by show Value.int .u32 ((4294967295 : Int) - (s : Int)) = .int .u32 ((4294967295 - s : Nat) : Int); congr 1; omega⟩
  case round =>
    obtain ⟨k, hk, rfl, rfl⟩ := hrel
    have hf := foldN_lt (r := 4294967295 - s) (bs.take k) (by omega)
    by_cases hlt : k < n
    · obtain ⟨b, off, rfl, hb, hl, hc⟩ := hrd.at_ hlt
      have hx := bs[k].toNat_lt
      have hsn := fold_snoc (4294967295 - s) bs k hl
      generalize foldN (4294967295 - s) (bs.take k) = q at *
      generalize bs[k].toNat = x at *
      go_wp2_with fail
      refine (refTake_any q x _ hf hx).mono ?_
      rintro e w1 ⟨rfl, rfl⟩
      go_wp2
      go_round
      case rel => exact ⟨k + 1, by omega, by go_num, rfl⟩
      case measure => simp [intOf]; omega
    · have hall : bs.take k = bs := List.take_of_length_le (by omega)
      rw [hall] at hf ⊢
      go_wp2
      go_ret
      exact ⟨by unfold moreN; go_num, rfl⟩

set_option maxHeartbeats 400000 in
theorem sum_any (A : Option Addr) (n c B : Nat) (bs : List UInt8) (w : World) (hrd : Rd w B A n bs) (hn : n ≤ 1000000) :
    Calls Try.prog 17 #[.slice A n c] w fun e w' => e = .returned (.int .u32 (moreN 0 bs : Int)) ∧ w = w' := by
  go_enter Try.func17, Try.ntmps17
  go_wp2_with fail
  refine (more_any A n c B 0 bs _ hrd hn (by omega)).mono ?_
  rintro e w1 ⟨rfl, rfl⟩
  go_wp2
  go_ret
  exact ⟨rfl, rfl⟩

set_option maxHeartbeats 400000 in
theorem refSum_any (A : Option Addr) (n c B : Nat) (bs : List UInt8) (w : World) (hrd : Rd w B A n bs) (hn : n ≤ 1000000) :
    Calls Try.prog 25 #[.slice A n c] w fun e w' => e = .returned (.int .u32 (moreN 0 bs : Int)) ∧ w = w' := by
  go_enter Try.func25, Try.ntmps25
  go_wp2_with fail
  refine (refMore_any A n c B 0 bs _ hrd hn (by omega)).mono ?_
  rintro e w1 ⟨rfl, rfl⟩
  go_wp2
  go_ret
  exact ⟨rfl, rfl⟩

end Go.Proofs.Yteomiekjcnpnlaa
