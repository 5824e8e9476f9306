/- Texts of mine, joined: Ref1, Tag1, BlkM, WordM, ListM, BitM, ListM2, TileM, RebM, CheckM, CheckM2, CheckM3, HpM, HpM2, HpM3, Ref7a, Ref7b. -/
import Derived.Laws.BitsAllLaws
import Derived.Laws.ResultCell
import Derived.Test.YtbemaoncakcnjaaGreatM1

/- The contracts of the document's own numbers: Get, Low, IsSize, Pack, Unpack, Need, Class. -/
namespace Go.Proofs.YtbemaoncakcnjaaGreat
open Go.RowKit

theorem rt_i {k : IntKind} {a b : Int} (h : a = b) : Ending.returned (.int k a) = .returned (.int k b) := by rw [h]
theorem rt_b {a b : Bool} (h : a = b) : Ending.returned (.bool a) = .returned (.bool b) := by rw [h]

set_option maxHeartbeats 400000 in
theorem rget_yes (A : Option Addr) (len c B : Nat) (bs : List UInt8) (p n : Nat) (w : World) (h : Rd w B A len bs) (hlc : len ≤ c) (hl : len ≤ 1000000) (hn0 : 0 < n) (hn : n ≤ 8) (h2 : p + n ≤ len) :
    Calls Tryz.prog 95 #[.slice A len c, .int .u64 (p : Int), .int .i64 (n : Int)] w fun e w' => e = .returned (.tuple #[.int .u64 (numB ((bs.drop p).take n) : Int), .bool true]) ∧ w = w' := by
  obtain ⟨b, off, rfl, hb, _, _⟩ := h.at_ (k := 0) (by omega)
  have hs := h.sub p n h2
  go_enter Tryz.func95, Tryz.ntmps95
  go_wp2_with fail
  refine (refNum_any _ _ _ _ _ _ hs (by omega)).mono ?_
  rintro e w' ⟨rfl, rfl⟩
  go_wp2
  go_ret2
  exact ⟨rfl, rfl⟩

set_option maxHeartbeats 400000 in
theorem rget_no (A : Option Addr) (len c p n : Nat) (w : World) (hl : len ≤ 1000000) (hn : n ≤ 8) (h2 : len < p + n) :
    Calls Tryz.prog 95 #[.slice A len c, .int .u64 (p : Int), .int .i64 (n : Int)] w fun e w' => e = .returned (.tuple #[.int .u64 0, .bool false]) ∧ w = w' := by
  by_cases h3 : len < p
  · go_enter Tryz.func95, Tryz.ntmps95
    go_wp2
    go_ret2
    exact ⟨rfl, rfl⟩
  · go_enter Tryz.func95, Tryz.ntmps95
    go_wp2
    go_ret2
    exact ⟨rfl, rfl⟩

section
variable (w : World)
set_option maxHeartbeats 400000 in
theorem rissize_any (n : Int) (hn : -9223372036854775808 ≤ n ∧ n ≤ 9223372036854775807) (b : Bool) (hb : isSz n = b) :
    Calls Tryz.prog 67 #[.int .i64 n] w fun e w' => e = .returned (.bool b) ∧ w = w' := by
  by_cases h1 : 32 ≤ n
  · by_cases h2 : n ≤ 16384
    · have e : (n % 16 == 0) = b := by rw [← hb]; simp [isSz, h1, h2]
      have HE := Lib.hid e
      clear hb e
      go_enter Tryz.func67, Tryz.ntmps67
      go_wp2
      go_ret
      exact ⟨rt_b HE.out, rfl⟩
    · obtain rfl : false = b := by rw [← hb]; simp [isSz, h2]
      clear hb
      go_enter Tryz.func67, Tryz.ntmps67
      go_wp2
      go_ret
      exact ⟨rfl, rfl⟩
  · obtain rfl : false = b := by rw [← hb]; simp [isSz, h1]
    clear hb
    go_enter Tryz.func67, Tryz.ntmps67
    go_wp2
    go_ret
    exact ⟨rfl, rfl⟩

/-- What Unpack tells. -/
def unpV (o : Option (Nat × Bool)) : Value := match o with
  | some (s, u) => .tuple #[.int .i64 (s : Int), .bool u, .bool true]
  | none => .tuple #[.int .i64 0, .bool false, .bool false]

set_option maxHeartbeats 400000 in
theorem runpack_any (v : Nat) (hv : v < 18446744073709551616) :
    Calls Tryz.prog 94 #[.int .u64 (v : Int)] w fun e w' => e = .returned (unpV (unpN v)) ∧ w = w' := by
  by_cases h0 : 20000 < v
  · have e : unpN v = none := by unfold unpN; rw [if_neg (by omega)]
    rw [e]
    clear e
    go_enter Tryz.func94, Tryz.ntmps94
    go_wp2
    go_ret3
    exact ⟨rfl, rfl⟩
  · obtain ⟨s, hs⟩ : ∃ s : Nat, v - v % 2 = s := ⟨_, rfl⟩
    have hs2 : (v : Int) - (v : Int) % 2 = (s : Int) := by omega
    cases hb : isSz (s : Int)
    · have e : unpN v = none := by unfold unpN; rw [hs, if_neg (by simp [hb])]
      rw [e]
      have HI := Lib.hid (rissize_any w (s : Int) (by omega) false hb)
      have HS := Lib.hid hs2
      clear e hs hb hs2
      go_enter Tryz.func94, Tryz.ntmps94
      go_wp2_with fail
      rw [HS.out]
      with_reducible refine HI.out.mono ?_
      rintro e w1 ⟨rfl, rfl⟩
      go_wp2
      go_ret3
      exact ⟨rfl, rfl⟩
    · have e : unpN v = some (s, v % 2 == 1) := by unfold unpN; rw [hs, if_pos ⟨by omega, hb⟩]
      rw [e]
      have HI := Lib.hid (rissize_any w (s : Int) (by omega) true hb)
      have HS := Lib.hid hs2
      have HB : Hid (((v : Int) % 2 == 1) = (v % 2 == 1)) := (show _ = _ by
        rw [Bool.eq_iff_iff, beq_iff_eq, beq_iff_eq]; omega)
      clear e hs hb hs2
      go_enter Tryz.func94, Tryz.ntmps94
      go_wp2_with fail
      rw [HS.out]
      with_reducible refine HI.out.mono ?_
      rintro e w1 ⟨rfl, rfl⟩
      go_wp2
      go_ret3
      refine ⟨?_, rfl⟩
      rw [← HB.out]
      rfl

set_option maxHeartbeats 1000000 in
theorem rclass_any (s : Int) (hs : -9223372036854775808 ≤ s ∧ s ≤ 9223372036854775807) (c : Int) (hc : classI s = c) :
    Calls Tryz.prog 38 #[.int .i64 s] w fun e w' => e = .returned (.int .i64 c) ∧ w = w' := by
  cases hb : isSz s
  · obtain rfl : -1 = c := by rw [← hc]; simp [classI, hb]
    have HI := Lib.hid (rissize_any w s hs false hb)
    clear hc hb
    go_enter Tryz.func38, Tryz.ntmps38
    go_wp2_with fail
    with_reducible refine HI.out.mono ?_
    rintro e w1 ⟨rfl, rfl⟩
    go_wp2
    go_ret
    exact ⟨rfl, rfl⟩
  · have h := (isSz_iff s).1 hb
    have HI := Lib.hid (rissize_any w s hs true hb)
    have hc' : classI s = c := hc
    unfold classI at hc
    rw [if_neg (by simp [hb])] at hc
    by_cases h0 : s ≤ 256
    · rw [if_pos h0] at hc
      have HC := Lib.hid hc
      clear hc hc' hb
      go_enter Tryz.func38, Tryz.ntmps38
      go_wp2_with fail
      with_reducible refine HI.out.mono ?_
      rintro e w1 ⟨rfl, rfl⟩
      go_wp2
      go_ret
      exact ⟨rt_i HC.out, rfl⟩
    · rw [if_neg h0] at hc
      have HC := Lib.hid hc
      clear hc hc' hb
      go_enter Tryz.func38, Tryz.ntmps38
      go_wp2_with fail
      with_reducible refine HI.out.mono ?_
      rintro e w1 ⟨rfl, rfl⟩
      go_wp2
      go_loop [4, 5] (fun a t => ∃ k P : Nat, k ≤ 6 ∧ P = 2 ^ k ∧ a = .int .i64 ((15 + k : Nat) : Int) ∧ t = .int .i64 ((512 * P : Nat) : Int) ∧ (256 * P : Int) ≤ s) (fun a _ => 21 - (intOf a).toNat)
      case atStart => exact ⟨0, 1, by omega, rfl, rfl, rfl, by omega⟩
      case round =>
        obtain ⟨k, P, hk, hP, rfl, rfl, hlo⟩ := hrel
        have hP6 : P ≤ 64 := by rw [hP]; exact Nat.pow_le_pow_right (by omega) hk
        by_cases hge : (512 * P : Int) ≤ s
        · have hk5 : k < 6 := by
            rcases Nat.lt_or_ge k 6 with h | h
            · exact h
            · obtain rfl : k = 6 := by omega
              rw [hP] at hge; omega
          have HP := Lib.hid hP
          have g1 : ((512 * P : Nat) : Int) ≤ s := by omega
          clear hP
          go_wp2
          go_round
          case rel => exact ⟨k + 1, 2 * P, by omega, by rw [Nat.pow_succ, HP.out]; omega, by go_num, by go_num, by omega⟩
          case measure => simp [intOf]; omega
        · have g1 : ¬ ((512 * P : Nat) : Int) ≤ s := by omega
          have HR : Hid (((15 + k : Nat) : Int) = c) := (show _ = _ by
            rw [← HC.out]
            match k, hk, hP with
            | 0, _, hP => simp at hP; subst hP; repeat' split
                          all_goals omega
            | 1, _, hP => simp at hP; subst hP; repeat' split
                          all_goals omega
            | 2, _, hP => simp at hP; subst hP; repeat' split
                          all_goals omega
            | 3, _, hP => simp at hP; subst hP; repeat' split
                          all_goals omega
            | 4, _, hP => simp at hP; subst hP; repeat' split
                          all_goals omega
            | 5, _, hP => simp at hP; subst hP; repeat' split
                          all_goals omega
            | 6, _, hP => simp at hP; subst hP; repeat' split
                          all_goals omega)
          clear hP HC
          go_wp2
          go_ret
          exact ⟨rt_i HR.out, rfl⟩
end
end Go.Proofs.YtbemaoncakcnjaaGreat

/- The contracts of the program's tags: isSize, Pack, Unpack; the head of the laws of layer 6. -/
namespace Go.Proofs.YtbemaoncakcnjaaGreat
open Go.RowKit

theorem andnot_one (v : Nat) (hv : v ≤ 16385) : wrap64 (bits .andNot .u64 (v : Int) 1) = ((v - v % 2 : Nat) : Int) := by
  have h : bits .andNot .u64 (v : Int) ((1 : Nat) : Int) = ((v &&& (18446744073709551615 - 1) : Nat) : Int) := by
    have hx : v &&& (18446744073709551615 - 1) < 2 ^ 64 := Nat.and_lt_two_pow _ (by omega)
    show IntKind.u64.wrap ((BitVec.ofInt 64 (v : Int) &&& ~~~BitVec.ofInt 64 ((1 : Nat) : Int)).toNat : Int) = _
    rw [BitVec.toNat_and, BitVec.toNat_not, ofInt_u64 v (by omega), ofInt_u64 1 (by omega), IntKind.wrap_u64]
    have e : 2 ^ 64 - 1 - 1 = 18446744073709551615 - 1 := by omega
    rw [e]
    omega
  have h2 : v &&& (18446744073709551615 - 1) = v - v % 2 := by
    rw [nat_hi64_1, Nat.mod_eq_of_lt (by omega)]
    omega
  have h3 : bits .andNot .u64 (v : Int) 1 = ((v - v % 2 : Nat) : Int) := by rw [← h2]; exact h
  rw [h3]
  have h4 := Nat.sub_le v (v % 2)
  unfold wrap64
  omega
theorem and_one (v : Nat) (hv : v < 18446744073709551616) : (bits .and .u64 (v : Int) 1 == 1) = (v % 2 == 1) := by
  have h : bits .and .u64 (v : Int) 1 = ((v &&& 1 : Nat) : Int) := u64_and_nat v 1 hv (by omega)
  rw [h, Nat.and_one_is_mod, Bool.eq_iff_iff, beq_iff_eq, beq_iff_eq]
  omega

section
variable (w : World)
set_option maxHeartbeats 400000 in
theorem tissize_any (n : Int) (hn : -9223372036854775808 ≤ n ∧ n ≤ 9223372036854775807) (b : Bool) (hb : isSz n = b) :
    Calls Tryz.prog 84 #[.int .i64 n] w fun e w' => e = .returned (.bool b) ∧ w = w' := by
  by_cases h1 : 32 ≤ n
  · by_cases h2 : n ≤ 16384
    · have e : (n % 16 == 0) = b := by rw [← hb]; simp [isSz, h1, h2]
      have HE := Lib.hid e
      clear hb e
      go_enter Tryz.func84, Tryz.ntmps84
      go_wp2
      go_ret
      exact ⟨rt_b HE.out, rfl⟩
    · obtain rfl : false = b := by rw [← hb]; simp [isSz, h2]
      clear hb
      go_enter Tryz.func84, Tryz.ntmps84
      go_wp2
      go_ret
      exact ⟨rfl, rfl⟩
  · obtain rfl : false = b := by rw [← hb]; simp [isSz, h1]
    clear hb
    go_enter Tryz.func84, Tryz.ntmps84
    go_wp2
    go_ret
    exact ⟨rfl, rfl⟩

set_option maxHeartbeats 400000 in
theorem tpack_any (s : Int) (u : Bool) (hs : -9223372036854775808 ≤ s ∧ s ≤ 9223372036854775807) (m : Nat) (hm : packN s u = m) :
    Calls Tryz.prog 49 #[.int .i64 s, .bool u] w fun e w' => e = .returned (.int .u64 (m : Int)) ∧ w = w' := by
  cases hb : isSz s
  · obtain rfl : 0 = m := by rw [← hm]; simp [packN, hb]
    have HI := Lib.hid (tissize_any w s hs false hb)
    clear hm hb
    go_enter Tryz.func49, Tryz.ntmps49
    go_wp2_with fail
    with_reducible refine HI.out.mono ?_
    rintro e w1 ⟨rfl, rfl⟩
    go_wp2
    go_ret
    exact ⟨rfl, rfl⟩
  · have h := (isSz_iff s).1 hb
    have HI := Lib.hid (tissize_any w s hs true hb)
    obtain ⟨n, rfl⟩ : ∃ n : Nat, s = (n : Int) := ⟨s.toNat, by omega⟩
    have hn : n ≤ 16384 := by omega
    have HM : Hid (n + (if u = true then 1 else 0) = m) := (show _ = _ by rw [← hm]; simp [packN, hb])
    clear hm hb h
    cases u
    · go_enter Tryz.func49, Tryz.ntmps49
      go_wp2_with fail
      with_reducible refine HI.out.mono ?_
      rintro e w1 ⟨rfl, rfl⟩
      go_wp2
      go_ret
      exact ⟨rt_i (by have := HM.out; simp at this; omega), rfl⟩
    · go_enter Tryz.func49, Tryz.ntmps49
      go_wp2_with fail
      with_reducible refine HI.out.mono ?_
      rintro e w1 ⟨rfl, rfl⟩
      go_wp2
      go_ret
      exact ⟨rt_i (by have := HM.out; simp at this; omega), rfl⟩

set_option maxHeartbeats 400000 in
theorem tunpack_any (v : Nat) (hv : v < 18446744073709551616) :
    Calls Tryz.prog 88 #[.int .u64 (v : Int)] w fun e w' => e = .returned (unpV (unpN v)) ∧ w = w' := by
  by_cases h0 : 16385 < v
  · have e : unpN v = none := by
      unfold unpN
      rw [if_neg]
      rintro ⟨_, h⟩
      have := (isSz_iff _).1 h
      omega
    rw [e]
    clear e
    go_enter Tryz.func88, Tryz.ntmps88
    go_wp2
    go_ret3
    exact ⟨rfl, rfl⟩
  · obtain ⟨s, hs⟩ : ∃ s : Nat, v - v % 2 = s := ⟨_, rfl⟩
    have hs2 : wrap64 (bits .andNot .u64 (v : Int) 1) = (s : Int) := by rw [andnot_one v (by omega), hs]
    cases hb : isSz (s : Int)
    · have e : unpN v = none := by unfold unpN; rw [hs, if_neg (by simp [hb])]
      rw [e]
      have HI := Lib.hid (tissize_any w (s : Int) (by have := Nat.sub_le v (v % 2); omega) false hb)
      have HS := Lib.hid hs2
      clear e hs hb hs2
      go_enter Tryz.func88, Tryz.ntmps88
      go_wp2_with fail
      rw [HS.out]
      with_reducible refine HI.out.mono ?_
      rintro e w1 ⟨rfl, rfl⟩
      go_wp2
      go_ret3
      exact ⟨rfl, rfl⟩
    · have e : unpN v = some (s, v % 2 == 1) := by unfold unpN; rw [hs, if_pos ⟨by omega, hb⟩]
      rw [e]
      have HI := Lib.hid (tissize_any w (s : Int) (by have := Nat.sub_le v (v % 2); omega) true hb)
      have HS := Lib.hid hs2
      have HB := Lib.hid (and_one v hv)
      clear e hs hb hs2
      go_enter Tryz.func88, Tryz.ntmps88
      go_wp2_with fail
      rw [HS.out]
      with_reducible refine HI.out.mono ?_
      rintro e w1 ⟨rfl, rfl⟩
      go_wp2
      go_ret3
      refine ⟨?_, rfl⟩
      rw [← HB.out]
      rfl

end
end Go.Proofs.YtbemaoncakcnjaaGreat

/- Blocks in bytes: plain definitions and facts. No program in sight. -/
namespace Go.Proofs.YtbemaoncakcnjaaGreat

/-- A block. -/
structure Bk where
  off : Nat
  size : Nat
  used : Bool
deriving DecidableEq
/-- The number of the eight bytes from o on. -/
def wordN (bs : List UInt8) (o : Nat) : Nat := numB ((bs.drop o).take 8)
def word? (bs : List UInt8) (o : Int) : Option Nat := if 0 ≤ o ∧ o + 8 ≤ bs.length then some (wordN bs o.toNat) else none
/-- Could a block of a size stand at o, of so many bytes? -/
def could (n : Nat) (o size : Int) : Bool := decide (184 ≤ o) && (o % 16 == 8 && (decide (o ≤ n) && decide (size ≤ n - o)))
theorem could_iff (n : Nat) (o size : Int) : could n o size = true ↔ 184 ≤ o ∧ o % 16 = 8 ∧ o ≤ n ∧ size ≤ n - o := by simp [could]
/-- The block that stands at o. -/
def getB (bs : List UInt8) (o : Int) : Option Bk :=
  if could bs.length o 8 = false then none else
  match unpN (wordN bs o.toNat) with
  | none => none
  | some (s, u) => if could bs.length o s = false then none else if wordN bs (o.toNat + s - 8) = wordN bs o.toNat then some ⟨o.toNat, s, u⟩ else none
/-- The block that ends at o. -/
def aheadB (bs : List UInt8) (o : Int) : Option Bk :=
  if o < 184 ∨ (bs.length : Int) < o then none else
  match unpN (wordN bs (o.toNat - 8)) with
  | none => none
  | some (s, u) => match getB bs (o - s) with
    | none => none
    | some x => if x.size = s ∧ x.used = u then some x else none

/-- All blocks from o on. -/
def walkF (bs : List UInt8) : Nat → Nat → Option (List Bk)
  | 0, _ => none
  | k + 1, o => if o < bs.length then (match getB bs (o : Int) with
    | none => none
    | some x => (walkF bs k (o + x.size)).map (x :: ·)) else some []
def walkB (bs : List UInt8) : Option (List Bk) := if bs.length < 184 then none else walkF bs (bs.length + 1) 184

theorem wordN_lt (bs : List UInt8) (o : Nat) : wordN bs o < 18446744073709551616 := numB_lt64 _ (by rw [List.length_take]; omega)
theorem getB_some {bs : List UInt8} {o : Int} {x : Bk} (h : getB bs o = some x) : o = (x.off : Int) ∧ 184 ≤ x.off ∧ x.off % 16 = 8 ∧ x.off + x.size ≤ bs.length ∧ isSz (x.size : Int) = true ∧ unpN (wordN bs x.off) = some (x.size, x.used) ∧ wordN bs (x.off + x.size - 8) = wordN bs x.off := by
  unfold getB at h
  split at h
  · cases h
  · rename_i hc
    have hc' := (could_iff _ _ _).1 (by simpa using hc)
    split at h
    · cases h
    · rename_i s u hu
      split at h
      · cases h
      · rename_i hc2
        have hc2' := (could_iff _ _ _).1 (by simpa using hc2)
        split at h
        · rename_i hw
          injection h with h
          subst h
          have := unpN_some hu
          refine ⟨by dsimp only; omega, by dsimp only; omega, by dsimp only; omega, by dsimp only; omega, this.1, hu, hw⟩
        · cases h
/-- A block stands at o just so. -/
theorem getB_of {bs : List UInt8} {x : Bk} (h1 : 184 ≤ x.off) (h2 : x.off % 16 = 8) (h3 : x.off + x.size ≤ bs.length) (h4 : unpN (wordN bs x.off) = some (x.size, x.used)) (h5 : wordN bs (x.off + x.size - 8) = wordN bs x.off) : getB bs (x.off : Int) = some x := by
  have hs := (isSz_iff _).1 (unpN_some h4).1
  unfold getB
  rw [if_neg (by rw [(could_iff _ _ _).2 (by omega)]; simp)]
  rw [Int.toNat_natCast, h4]
  dsimp only
  rw [if_neg (by rw [(could_iff _ _ _).2 (by omega)]; simp), if_pos h5]

end Go.Proofs.YtbemaoncakcnjaaGreat

/- Numbers laid into bytes, and bits: plain facts. No program in sight. -/
namespace Go.Proofs.YtbemaoncakcnjaaGreat

/-- A number laid at an offset. -/
def lyN (bs : List UInt8) (o v : Nat) : List UInt8 := bs.take o ++ (lowB 8 v ++ bs.drop (o + 8))
theorem lyN_length (bs : List UInt8) (o v : Nat) (h : o + 8 ≤ bs.length) : (lyN bs o v).length = bs.length := by
  unfold lyN
  rw [List.length_append, List.length_append, lowB_length, List.length_take, List.length_drop]
  omega
theorem lyN_get (bs : List UInt8) (o v i : Nat) (h : o + 8 ≤ bs.length) (hi : i < o ∨ o + 8 ≤ i) : (lyN bs o v)[i]? = bs[i]? := by
  unfold lyN
  have e1 : (bs.take o).length = o := by rw [List.length_take]; omega
  rcases hi with hi | hi
  · rw [List.getElem?_append_left (by omega), List.getElem?_take_of_lt hi]
  · rw [List.getElem?_append_right (by omega), e1, List.getElem?_append_right (by rw [lowB_length]; omega), lowB_length, List.getElem?_drop]
    congr 1
    omega
theorem wordN_same (bs : List UInt8) (o v : Nat) (h : o + 8 ≤ bs.length) (hv : v < 18446744073709551616) : wordN (lyN bs o v) o = v := by
  have e1 : (bs.take o).length = o := by rw [List.length_take]; omega
  have e : ((lyN bs o v).drop o).take 8 = lowB 8 v := by
    unfold lyN
    rw [List.drop_append, e1, List.drop_eq_nil_of_le (by omega), List.nil_append, Nat.sub_self, List.drop_zero]
    have := lowB_length 8 v
    rw [List.take_append_of_le_length (by omega), List.take_of_length_le (by omega)]
  unfold wordN
  rw [e, numB_lowB]
  exact Nat.mod_eq_of_lt hv
theorem wordN_congr (bs bs' : List UInt8) (p : Nat) (h : ∀ i, p ≤ i → i < p + 8 → bs'[i]? = bs[i]?) : wordN bs' p = wordN bs p := by
  unfold wordN
  congr 1
  apply List.ext_getElem?
  intro i
  rcases Nat.lt_or_ge i 8 with hi | hi
  · rw [List.getElem?_take_of_lt hi, List.getElem?_take_of_lt hi, List.getElem?_drop, List.getElem?_drop]
    exact h _ (by omega) (by omega)
  · rw [List.getElem?_eq_none (by rw [List.length_take]; omega), List.getElem?_eq_none (by rw [List.length_take]; omega)]
theorem wordN_other (bs : List UInt8) (o v p : Nat) (h : o + 8 ≤ bs.length) (hd : p + 8 ≤ o ∨ o + 8 ≤ p) : wordN (lyN bs o v) p = wordN bs p :=
  wordN_congr _ _ _ fun i h1 h2 => lyN_get bs o v i h (by omega)

/-- Blocks stand by their tags. -/
theorem getB_congr (bs bs' : List UInt8) (x : Bk) (hl : bs'.length = bs.length) (hx : getB bs (x.off : Int) = some x) (h1 : wordN bs' x.off = wordN bs x.off) (h2 : wordN bs' (x.off + x.size - 8) = wordN bs (x.off + x.size - 8)) : getB bs' (x.off : Int) = some x := by
  obtain ⟨_, g1, g2, g3, g4, g5, g6⟩ := getB_some hx
  exact getB_of g1 g2 (by omega) (by rw [h1]; exact g5) (by rw [h1, h2]; exact g6)

/-- A bit of a number. -/
def bitN (w c : Nat) : Bool := w / 2 ^ c % 2 == 1
theorem bitN_succ (w c : Nat) : bitN w (c + 1) = bitN (w / 2) c := by
  unfold bitN
  rw [Nat.pow_succ, Nat.mul_comm, Nat.div_div_eq_div_mul]
theorem bitN_add (w c : Nat) (h : bitN w c = false) (d : Nat) : bitN (w + 2 ^ c) d = if d = c then true else bitN w d := by
  induction c generalizing w d with
  | zero =>
    have h0 : w % 2 = 0 := by
      unfold bitN at h
      simp at h
      omega
    cases d with
    | zero => simp [bitN]; omega
    | succ d =>
      rw [if_neg (by omega), bitN_succ, bitN_succ]
      congr 1
      simp; omega
  | succ c ih =>
    rw [bitN_succ] at h
    have e : (w + 2 ^ (c + 1)) / 2 = w / 2 + 2 ^ c := by rw [Nat.pow_succ]; omega
    cases d with
    | zero =>
      rw [if_neg (by omega)]
      simp only [bitN, Nat.pow_zero, Nat.div_one]
      rw [Nat.pow_succ]
      congr 1
      omega
    | succ d =>
      rw [bitN_succ, e, ih (w / 2) h d, bitN_succ w d]
      by_cases hd : d = c
      · rw [if_pos hd, if_pos (by omega)]
      · rw [if_neg hd, if_neg (by omega)]
theorem bitN_ge (w c : Nat) (h : bitN w c = true) : 2 ^ c ≤ w := by
  unfold bitN at h
  rw [beq_iff_eq] at h
  rcases Nat.lt_or_ge w (2 ^ c) with h1 | h1
  · rw [Nat.div_eq_of_lt h1] at h; cases h
  · exact h1
theorem bitN_sub_c (w c : Nat) (h : bitN w c = true) : bitN (w - 2 ^ c) c = false := by
  have hg := bitN_ge w c h
  have hp : 0 < 2 ^ c := Nat.two_pow_pos c
  unfold bitN at h ⊢
  rw [beq_iff_eq] at h
  have e : w / 2 ^ c = (w - 2 ^ c) / 2 ^ c + 1 := by
    conv => lhs; rw [← Nat.sub_add_cancel hg]
    rw [Nat.add_div_right _ hp]
  rw [e] at h
  rw [beq_eq_false_iff_ne]
  omega
theorem bitN_sub (w c : Nat) (h : bitN w c = true) (d : Nat) : bitN (w - 2 ^ c) d = if d = c then false else bitN w d := by
  have hg := bitN_ge w c h
  have h0 := bitN_sub_c w c h
  have := bitN_add (w - 2 ^ c) c h0 d
  rw [Nat.sub_add_cancel hg] at this
  by_cases hd : d = c
  · rw [if_pos hd, hd]; exact h0
  · rw [if_neg hd] at this ⊢
    exact this.symm
theorem bitN_lt (w c : Nat) (hc : c < 64) (hw : w < 18446744073709551616) (h : bitN w c = false) : w + 2 ^ c < 18446744073709551616 := by
  have e : (18446744073709551616 : Nat) = 2 ^ (63 - c) * 2 * 2 ^ c := by
    rw [← Nat.pow_succ, ← Nat.pow_add, show (63 - c).succ + c = 64 by omega]
  have hp : 0 < 2 ^ c := Nat.two_pow_pos c
  have h1 : w / 2 ^ c < 2 ^ (63 - c) * 2 := by
    rw [Nat.div_lt_iff_lt_mul hp, ← e]; exact hw
  have h2 : w / 2 ^ c % 2 = 0 := by
    unfold bitN at h
    rw [beq_eq_false_iff_ne] at h
    omega
  have h3 : w / 2 ^ c + 2 ≤ 2 ^ (63 - c) * 2 := by omega
  have h4 := Nat.div_add_mod w (2 ^ c)
  have h5 := Nat.mod_lt w hp
  have h6 : (w / 2 ^ c + 2) * 2 ^ c ≤ 2 ^ (63 - c) * 2 * 2 ^ c := Nat.mul_le_mul_right _ h3
  rw [← e, Nat.add_mul, Nat.mul_comm (w / 2 ^ c)] at h6
  omega
end Go.Proofs.YtbemaoncakcnjaaGreat

/- Lists of free blocks in bytes: plain definitions; what Put, Take, All come to where the lists are right. No program in sight. -/
namespace Go.Proofs.YtbemaoncakcnjaaGreat

/-- The number at an offset; 0, if there is none. -/
def numO (bs : List UInt8) (o : Int) : Nat := (word? bs o).getD 0
/-- The class of the free block at o; -1: there is none. -/
def freeI (bs : List UInt8) (o : Int) : Int := match getB bs o with
  | some x => if x.used = true then -1 else classI x.size
  | none => -1
/-- Does a free block of a class stand there? -/
def memberB (bs : List UInt8) (p : Nat) (c : Int) : Bool := decide (p ≤ 20000) && (match getB bs (p : Int) with
  | some x => !x.used && classI x.size == c
  | none => false)
/-- A class's bit, as its first one tells. -/
def markB (bs : List UInt8) (c : Nat) : List UInt8 :=
  if bitN (wordN bs 0) c = true ∧ wordN bs (8 + 8 * c) = 0 then lyN bs 0 (wordN bs 0 - 2 ^ c)
  else if bitN (wordN bs 0) c = false ∧ wordN bs (8 + 8 * c) ≠ 0 then lyN bs 0 (wordN bs 0 + 2 ^ c) else bs
/-- What comes of putting the block at o. -/
def putB (bs : List UInt8) (o : Int) : Option (List UInt8) :=
  if freeI bs o < 0 then none else
  let c := (freeI bs o).toNat
  let f := wordN bs (8 + 8 * c)
  if (f : Int) = o ∨ (f ≠ 0 ∧ memberB bs f (c : Int) = false) then none else
  let b1 := lyN (lyN bs (o.toNat + 8) f) (o.toNat + 16) 0
  let b2 := if f ≠ 0 then lyN b1 (f + 16) o.toNat else b1
  some (markB (lyN b2 (8 + 8 * c) o.toNat) c)
/-- What comes of taking the block at o (who had it as next has its next, and so has the class's number, if it was the first: in a list that is broken both may be). -/
def takeB (bs : List UInt8) (o : Int) : Option (List UInt8) :=
  if freeI bs o < 0 then none else
  let c := (freeI bs o).toNat
  let n := wordN bs (o.toNat + 8)
  let p := wordN bs (o.toNat + 16)
  if p = 0 ∧ (wordN bs (8 + 8 * c) : Int) ≠ o then none
  else if p ≠ 0 ∧ (memberB bs p (c : Int) = false ∨ (wordN bs (p + 8) : Int) ≠ o) then none
  else if n ≠ 0 ∧ (memberB bs n (c : Int) = false ∨ (wordN bs (n + 16) : Int) ≠ o) then none
  else
    let b1 := if p = 0 then lyN bs (8 + 8 * c) n else lyN bs (p + 8) n
    let b2 := if n ≠ 0 then lyN b1 (n + 16) p else b1
    let b3 := if p ≠ 0 ∧ (wordN bs (8 + 8 * c) : Int) = o then lyN b2 (8 + 8 * c) n else b2
    some (markB b3 c)
/-- All of a class, from one on. -/
def allF (bs : List UInt8) (c : Nat) : Nat → Nat → Nat → Option (List Nat)
  | k, last, p => if p = 0 then some [] else match k with
    | 0 => none
    | k + 1 => if memberB bs p (c : Int) = true ∧ wordN bs (p + 16) = last then (allF bs c k p (wordN bs (p + 8))).map (p :: ·) else none
def allB (bs : List UInt8) (c : Nat) : Option (List Nat) :=
  if bs.length < 184 then none
  else if bitN (wordN bs 0) c ≠ decide (wordN bs (8 + 8 * c) ≠ 0) then none
  else allF bs c 1024 0 (wordN bs (8 + 8 * c))

/-- Blocks that stand, apart from each other. -/
structure Stands (bs : List UInt8) (P : List Bk) : Prop where
  at_ : ∀ x ∈ P, getB bs (x.off : Int) = some x
  apart : ∀ x ∈ P, ∀ y ∈ P, x = y ∨ x.off + x.size ≤ y.off ∨ y.off + y.size ≤ x.off
/-- The numbers of a list's blocks, one behind the other: p is ahead of it, n behind. -/
def link (bs : List UInt8) : Nat → List Nat → Nat → Prop
  | _, [], _ => True
  | p, o :: r, n => wordN bs (o + 16) = p ∧ wordN bs (o + 8) = r.headD n ∧ link bs o r n
/-- The lists of all classes, of blocks out of P. -/
structure Lists (bs : List UInt8) (P : List Bk) (L : Nat → List Nat) : Prop where
  len : 184 ≤ bs.length
  small : bs.length ≤ 16384
  st : Stands bs P
  head : ∀ c, c < 22 → wordN bs (8 + 8 * c) = (L c).headD 0
  bit : ∀ c, c < 22 → bitN (wordN bs 0) c = !(L c).isEmpty
  mem : ∀ c, c < 22 → ∀ o ∈ L c, ∃ x ∈ P, x.off = o ∧ x.used = false ∧ classI x.size = (c : Int)
  links : ∀ c, c < 22 → link bs 0 (L c) 0
  nodup : ∀ c, c < 22 → (L c).Nodup

theorem link_append (bs : List UInt8) (l1 l2 : List Nat) (p n : Nat) : link bs p (l1 ++ l2) n ↔ link bs p l1 (l2.headD n) ∧ link bs (l1.getLastD p) l2 n := by
  induction l1 generalizing p with
  | nil => simp [link]
  | cons o r ih =>
    have e : (r ++ l2).headD n = r.headD (l2.headD n) := by cases r <;> rfl
    have e2 : (o :: r).getLastD p = r.getLastD o := by cases r <;> rfl
    simp only [List.cons_append, link, e, e2, ih]
    constructor
    · rintro ⟨a, b, c, d⟩; exact ⟨⟨a, b, c⟩, d⟩
    · rintro ⟨⟨a, b, c⟩, d⟩; exact ⟨a, b, c, d⟩
theorem link_congr {bs bs' : List UInt8} : ∀ (l : List Nat) (p n : Nat), (∀ o ∈ l, wordN bs' (o + 16) = wordN bs (o + 16) ∧ wordN bs' (o + 8) = wordN bs (o + 8)) → link bs p l n → link bs' p l n
  | [], _, _, _, _ => trivial
  | o :: r, p, n, h, hl => by
    obtain ⟨h1, h2⟩ := h o (by simp)
    obtain ⟨a, b, c⟩ := hl
    exact ⟨h1.trans a, h2.trans b, link_congr r o n (fun q hq => h q (by simp [hq])) c⟩

section
variable {bs : List UInt8} {P : List Bk} {L : Nat → List Nat}
theorem Stands.facts (h : Stands bs P) {x : Bk} (hx : x ∈ P) : 184 ≤ x.off ∧ x.off % 16 = 8 ∧ x.off + x.size ≤ bs.length ∧ 32 ≤ x.size ∧ x.size % 16 = 0 ∧ isSz (x.size : Int) = true := by
  obtain ⟨_, g1, g2, g3, g4, _⟩ := getB_some (h.at_ x hx)
  have := (isSz_iff _).1 g4
  exact ⟨g1, g2, g3, by omega, by omega, g4⟩
theorem Stands.uniq (h : Stands bs P) {x y : Bk} (hx : x ∈ P) (hy : y ∈ P) (e : x.off = y.off) : x = y := by
  have h1 := h.at_ x hx
  rw [e, h.at_ y hy] at h1
  injection h1 with h1
  exact h1.symm
/-- A number laid into the head, or between a block's tags, moves no block. -/
theorem Stands.lay (h : Stands bs P) (q v : Nat) (hq : q + 8 ≤ 184 ∨ ∃ y ∈ P, y.off + 8 ≤ q ∧ q + 8 ≤ y.off + y.size - 8) (hl : 184 ≤ bs.length) : Stands (lyN bs q v) P := by
  have hqb : q + 8 ≤ bs.length := by
    rcases hq with hq | ⟨y, hy, h1, h2⟩
    · omega
    · have := h.facts hy; omega
  refine ⟨fun x hx => ?_, h.apart⟩
  have hf := h.facts hx
  refine getB_congr bs _ x (lyN_length _ _ _ hqb) (h.at_ x hx) (wordN_other _ _ _ _ hqb ?_) (wordN_other _ _ _ _ hqb ?_)
  · rcases hq with hq | ⟨y, hy, h1, h2⟩
    · omega
    · have hy' := h.facts hy
      rcases h.apart x hx y hy with rfl | h3 | h3
      · omega
      · omega
      · omega
  · rcases hq with hq | ⟨y, hy, h1, h2⟩
    · omega
    · have hy' := h.facts hy
      rcases h.apart x hx y hy with rfl | h3 | h3
      · omega
      · omega
      · omega
theorem Lists.member (h : Lists bs P L) {c o : Nat} (hc : c < 22) (ho : o ∈ L c) : memberB bs o (c : Int) = true ∧ ∃ x ∈ P, x.off = o ∧ x.used = false ∧ classI x.size = (c : Int) := by
  obtain ⟨x, hx, rfl, hu, hcl⟩ := h.mem c hc o ho
  have hf := h.st.facts hx
  have hs := h.small
  refine ⟨?_, x, hx, rfl, hu, hcl⟩
  unfold memberB
  rw [h.st.at_ x hx]
  simp [hu, hcl]
  omega
theorem allF_link (h : Lists bs P L) {c : Nat} (hc : c < 22) : ∀ (l : List Nat) (k p : Nat), (∀ o ∈ l, o ∈ L c) → l.length ≤ k → link bs p l 0 → allF bs c k p (l.headD 0) = some l
  | [], k, _, _, _, _ => by cases k <;> simp [allF]
  | o :: r, 0, _, _, hk, _ => by simp at hk
  | o :: r, k + 1, p, hm, hk, hl => by
    obtain ⟨l1, l2, l3⟩ := hl
    obtain ⟨m1, x, hx, rfl, _⟩ := h.member hc (hm o (by simp))
    have hf := h.st.facts hx
    have ih := allF_link h hc r k x.off (fun q hq => hm q (by simp [hq])) (by simpa using hk) l3
    show allF bs c (k + 1) p x.off = _
    unfold allF
    rw [if_neg (by omega)]
    dsimp only
    rw [if_pos ⟨m1, l1⟩, l2, ih]
    rfl
/-- All of a class are its list. -/
theorem Lists.all (h : Lists bs P L) {c : Nat} (hc : c < 22) (hl : (L c).length ≤ 1024) : allB bs c = some (L c) := by
  have hlen := h.len
  unfold allB
  rw [if_neg (by omega), h.head c hc, h.bit c hc]
  have e : (!(L c).isEmpty) = decide ((L c).headD 0 ≠ 0) := by
    cases hL : L c with
    | nil => rfl
    | cons o r =>
      obtain ⟨_, x, hx, e, _⟩ := h.member hc (o := o) (by rw [hL]; simp)
      have hf := h.st.facts hx
      have : o ≠ 0 := by omega
      simp [this]
  rw [if_neg (by rw [e]; simp)]
  exact allF_link h hc (L c) 1024 0 (fun _ h => h) hl (h.links c hc)
end

theorem wordN_ly (bs : List UInt8) (q v p : Nat) (h : q + 8 ≤ bs.length) (hv : v < 18446744073709551616) (hp : p % 8 = 0) (hq : q % 8 = 0) : wordN (lyN bs q v) p = if p = q then v else wordN bs p := by
  by_cases e : p = q
  · rw [if_pos e, e]; exact wordN_same bs q v h hv
  · rw [if_neg e]; exact wordN_other bs q v p h (by omega)
/-- What markB comes to. -/
theorem markB_spec (bs : List UInt8) (c : Nat) (hc : c < 22) (hl : 184 ≤ bs.length) :
    (markB bs c).length = bs.length ∧ (∀ p, p % 8 = 0 → p ≠ 0 → wordN (markB bs c) p = wordN bs p) ∧ (∀ d, bitN (wordN (markB bs c) 0) d = if d = c then decide (wordN bs (8 + 8 * c) ≠ 0) else bitN (wordN bs 0) d) ∧
    (∀ P, Stands bs P → Stands (markB bs c) P) ∧ ∀ i, 8 ≤ i → (markB bs c)[i]? = bs[i]? := by
  have hw := wordN_lt bs 0
  unfold markB
  by_cases h1 : bitN (wordN bs 0) c = true ∧ wordN bs (8 + 8 * c) = 0
  · rw [if_pos h1]
    have hv : wordN bs 0 - 2 ^ c < 18446744073709551616 := Nat.lt_of_le_of_lt (Nat.sub_le _ _) hw
    refine ⟨lyN_length _ _ _ (by omega), fun p hp h0 => ?_, fun d => ?_, fun P hP => hP.lay 0 _ (.inl (by omega)) hl, fun i hi => lyN_get _ _ _ _ (by omega) (by omega)⟩
    · rw [wordN_ly _ _ _ _ (by omega) hv hp rfl, if_neg h0]
    · rw [wordN_same _ _ _ (by omega) hv, bitN_sub _ _ h1.1, h1.2]
      simp
  · rw [if_neg h1]
    by_cases h2 : bitN (wordN bs 0) c = false ∧ wordN bs (8 + 8 * c) ≠ 0
    · rw [if_pos h2]
      have hv := bitN_lt (wordN bs 0) c (by omega) hw h2.1
      refine ⟨lyN_length _ _ _ (by omega), fun p hp h0 => ?_, fun d => ?_, fun P hP => hP.lay 0 _ (.inl (by omega)) hl, fun i hi => lyN_get _ _ _ _ (by omega) (by omega)⟩
      · rw [wordN_ly _ _ _ _ (by omega) hv hp rfl, if_neg h0]
      · rw [wordN_same _ _ _ (by omega) hv, bitN_add _ _ h2.1]
        simp [h2.2]
    · rw [if_neg h2]
      refine ⟨rfl, fun _ _ _ => rfl, fun d => ?_, fun P hP => hP, fun _ _ => rfl⟩
      by_cases hd : d = c
      · rw [if_pos hd, hd]
        cases hb : bitN (wordN bs 0) c with
        | true =>
          have : wordN bs (8 + 8 * c) ≠ 0 := fun e => h1 ⟨hb, e⟩
          simp [this]
        | false =>
          have : wordN bs (8 + 8 * c) = 0 := by
            rcases Nat.eq_zero_or_pos (wordN bs (8 + 8 * c)) with e | e
            · exact e
            · exact absurd ⟨hb, by omega⟩ h2
          simp [this]
      · rw [if_neg hd]
/-- All that isn't the head, nor a free block's numbers. -/
def Kept (P : List Bk) (bs bs' : List UInt8) : Prop := ∀ i, 184 ≤ i → (∀ y ∈ P, y.used = false → i < y.off + 8 ∨ y.off + 24 ≤ i) → bs'[i]? = bs[i]?
theorem Kept.refl (P : List Bk) (bs : List UInt8) : Kept P bs bs := fun _ _ _ => rfl
theorem Kept.trans {P : List Bk} {b1 b2 b3 : List UInt8} (h : Kept P b1 b2) (k : Kept P b2 b3) : Kept P b1 b3 := fun i h1 h2 => (k i h1 h2).trans (h i h1 h2)
theorem Kept.ly (P : List Bk) (bs : List UInt8) (q v : Nat) (h : q + 8 ≤ bs.length) (hq : q + 8 ≤ 184 ∨ ∃ y ∈ P, y.used = false ∧ (q = y.off + 8 ∨ q = y.off + 16)) : Kept P bs (lyN bs q v) := fun i h1 h2 => by
  refine lyN_get _ _ _ _ h ?_
  rcases hq with hq | ⟨y, hy, hu, hq⟩
  · omega
  · have := h2 y hy hu
    omega
/-- The lists with one of them another. -/
def setL (L : Nat → List Nat) (c : Nat) (l : List Nat) (d : Nat) : List Nat := if d = c then l else L d

section
variable {bs : List UInt8} {P : List Bk} {L : Nat → List Nat}
theorem class_nat {x : Bk} (hs : isSz (x.size : Int) = true) : ∃ c : Nat, classI (x.size : Int) = (c : Int) ∧ c < 22 := by
  have h1 := classI_bounds (x.size : Int)
  have h2 : ¬ classI (x.size : Int) < 0 := by rw [classI_neg]; simp [hs]
  exact ⟨(classI (x.size : Int)).toNat, by omega, by omega⟩
theorem Lists.put (h : Lists bs P L) {x : Bk} (hx : x ∈ P) (hu : x.used = false) {c : Nat} (hc : classI (x.size : Int) = (c : Int)) (hc22 : c < 22) (hn : x.off ∉ L c) :
    ∃ bs', putB bs (x.off : Int) = some bs' ∧ Lists bs' P (setL L c (x.off :: L c)) ∧ bs'.length = bs.length ∧ Kept P bs bs' := by
  have hf := h.st.facts hx
  have hlen := h.len
  have hsm := h.small
  have hfr : freeI bs (x.off : Int) = (c : Int) := by unfold freeI; rw [h.st.at_ x hx]; simp [hu, hc]
  have hhead := h.head c hc22
  obtain ⟨f, hfe⟩ : ∃ f, wordN bs (8 + 8 * c) = f := ⟨_, rfl⟩
  have hflt : f < 18446744073709551616 := by rw [← hfe]; exact wordN_lt _ _
  rw [hfe] at hhead
  -- what the first one is
  have hcase : (L c = [] ∧ f = 0) ∨ ∃ y ∈ P, ∃ r, L c = f :: r ∧ y.off = f ∧ y.used = false ∧ memberB bs f (c : Int) = true := by
    cases hL : L c with
    | nil => left; rw [hL] at hhead; exact ⟨rfl, hhead⟩
    | cons o r =>
      right
      rw [hL] at hhead
      obtain rfl : f = o := hhead
      obtain ⟨m1, y, hy, e, yu, _⟩ := h.member hc22 (o := f) (by rw [hL]; simp)
      exact ⟨y, hy, r, rfl, e, yu, m1⟩
  have hput : putB bs (x.off : Int) = some (markB (lyN (if f ≠ 0 then lyN (lyN (lyN bs (x.off + 8) f) (x.off + 16) 0) (f + 16) x.off else lyN (lyN bs (x.off + 8) f) (x.off + 16) 0) (8 + 8 * c) x.off) c) := by
    unfold putB
    rw [hfr, if_neg (by omega)]
    simp only [Int.toNat_natCast, hfe]
    rw [if_neg]
    rintro (e | ⟨e1, e2⟩)
    · rcases hcase with ⟨_, e0⟩ | ⟨y, hy, r, hL, _⟩
      · omega
      · exact hn (by rw [hL, show x.off = f by omega]; simp)
    · rcases hcase with ⟨_, e0⟩ | ⟨y, hy, r, hL, _, _, m⟩
      · exact e1 e0
      · rw [m] at e2; cases e2
  obtain ⟨b1, hb1⟩ : ∃ b1, lyN (lyN bs (x.off + 8) f) (x.off + 16) 0 = b1 := ⟨_, rfl⟩
  have l0 : (lyN bs (x.off + 8) f).length = bs.length := lyN_length _ _ _ (by omega)
  have l1 : b1.length = bs.length := by rw [← hb1, lyN_length _ _ _ (by omega)]; exact l0
  have st1 : Stands b1 P := by
    rw [← hb1]
    exact (h.st.lay (x.off + 8) f (.inr ⟨x, hx, by omega, by omega⟩) hlen).lay _ _ (.inr ⟨x, hx, by omega, by omega⟩) (by omega)
  have w1 : ∀ p, p % 8 = 0 → wordN b1 p = if p = x.off + 16 then 0 else if p = x.off + 8 then f else wordN bs p := fun p hp => by
    rw [← hb1, wordN_ly _ _ _ _ (by omega) (by omega) hp (by omega), wordN_ly _ _ _ _ (by omega) hflt hp (by omega)]
  have k1 : Kept P bs b1 := by
    rw [← hb1]
    exact (Kept.ly P bs _ _ (by omega) (.inr ⟨x, hx, hu, .inl rfl⟩)).trans (Kept.ly P _ _ _ (by omega) (.inr ⟨x, hx, hu, .inr rfl⟩))
  rw [hb1] at hput
  obtain ⟨b2, hb2⟩ : ∃ b2, (if f ≠ 0 then lyN b1 (f + 16) x.off else b1) = b2 := ⟨_, rfl⟩
  have hb2f : b2.length = bs.length ∧ Stands b2 P ∧ (∀ p, p % 8 = 0 → wordN b2 p = if f ≠ 0 ∧ p = f + 16 then x.off else wordN b1 p) ∧ Kept P b1 b2 := by
    rcases hcase with ⟨_, e0⟩ | ⟨y, hy, r, hL, hyf, hyu, _⟩
    · rw [if_neg (by omega)] at hb2
      subst hb2
      exact ⟨l1, st1, fun p _ => by rw [if_neg (by omega)], Kept.refl _ _⟩
    · have hy' := h.st.facts hy
      rw [if_pos (by omega)] at hb2
      subst hb2
      refine ⟨by rw [lyN_length _ _ _ (by omega)]; exact l1, st1.lay _ _ (.inr ⟨y, hy, by omega, by omega⟩) (by omega), fun p hp => ?_, Kept.ly P _ _ _ (by omega) (.inr ⟨y, hy, hyu, .inr (by omega)⟩)⟩
      rw [wordN_ly _ _ _ _ (by omega) (by omega) hp (by omega)]
      by_cases e : p = f + 16
      · rw [if_pos e, if_pos ⟨by omega, e⟩]
      · rw [if_neg e, if_neg (fun h => e h.2)]
  obtain ⟨l2, st2, w2, k2⟩ := hb2f
  rw [hb2] at hput
  obtain ⟨b3, hb3⟩ : ∃ b3, lyN b2 (8 + 8 * c) x.off = b3 := ⟨_, rfl⟩
  have l3 : b3.length = bs.length := by rw [← hb3, lyN_length _ _ _ (by omega)]; exact l2
  have st3 : Stands b3 P := by rw [← hb3]; exact st2.lay _ _ (.inl (by omega)) (by omega)
  have w3 : ∀ p, p % 8 = 0 → wordN b3 p = if p = 8 + 8 * c then x.off else wordN b2 p := fun p hp => by
    rw [← hb3, wordN_ly _ _ _ _ (by omega) (by omega) hp (by omega)]
  have k3 : Kept P b2 b3 := by rw [← hb3]; exact Kept.ly P _ _ _ (by omega) (.inl (by omega))
  rw [hb3] at hput
  obtain ⟨m1, m2, m3, m4, m5⟩ := markB_spec b3 c hc22 (by omega)
  refine ⟨_, hput, ⟨by omega, by omega, m4 P st3, fun d hd => ?_, fun d hd => ?_, fun d hd o ho => ?_, fun d hd => ?_, fun d hd => ?_⟩, by omega, ((k1.trans k2).trans k3).trans fun i h1 _ => m5 i (by omega)⟩
  · -- the first of each class
    rw [m2 _ (by omega) (by omega), w3 _ (by omega)]
    unfold setL
    by_cases hdc : d = c
    · rw [if_pos (by omega), if_pos hdc]; rfl
    · rw [if_neg (by omega), if_neg hdc, w2 _ (by omega), ← h.head d hd]
      have hn1 : ¬ (f ≠ 0 ∧ 8 + 8 * d = f + 16) := by
        rintro ⟨h1, h2⟩
        rcases hcase with ⟨_, e0⟩ | ⟨y, hy, _, _, hyf, _⟩
        · exact h1 e0
        · have := h.st.facts hy; omega
      rw [if_neg hn1, w1 _ (by omega), if_neg (by omega), if_neg (by omega)]
  · -- the bits
    rw [m3 d]
    unfold setL
    by_cases hdc : d = c
    · rw [if_pos hdc, if_pos hdc, w3 _ (by omega), if_pos rfl]
      have : x.off ≠ 0 := by omega
      simp [this]
    · rw [if_neg hdc, if_neg hdc, ← h.bit d hd, w3 _ rfl, if_neg (by omega), w2 _ rfl]
      have hn1 : ¬ (f ≠ 0 ∧ 0 = f + 16) := by omega
      rw [if_neg hn1, w1 _ rfl, if_neg (by omega), if_neg (by omega)]
  · -- the members
    unfold setL at ho
    by_cases hdc : d = c
    · subst hdc
      rw [if_pos rfl] at ho
      rcases List.mem_cons.1 ho with rfl | ho
      · exact ⟨x, hx, rfl, hu, hc⟩
      · exact h.mem d hd o ho
    · rw [if_neg hdc] at ho
      exact h.mem d hd o ho
  · -- the links
    have hw : ∀ o, (∃ y ∈ P, y.off = o ∧ o ≠ x.off) → ∀ k, k = 8 ∨ k = 16 → wordN (markB b3 c) (o + k) = if f ≠ 0 ∧ o = f ∧ k = 16 then x.off else wordN bs (o + k) := by
      rintro o ⟨y, hy, rfl, hne⟩ k hk
      have hy' := h.st.facts hy
      have hap := h.st.apart x hx y hy
      have hne2 : y.off + k ≠ x.off + 8 ∧ y.off + k ≠ x.off + 16 := by
        rcases hap with e | e | e
        · rw [e] at hne; exact absurd rfl hne
        · omega
        · omega
      rw [m2 _ (by omega) (by omega), w3 _ (by omega), if_neg (by omega), w2 _ (by omega), w1 _ (by omega), if_neg hne2.2, if_neg hne2.1]
      by_cases e : f ≠ 0 ∧ y.off = f ∧ k = 16
      · rw [if_pos e, if_pos ⟨e.1, by omega⟩]
      · rw [if_neg e, if_neg]
        rintro ⟨e1, e2⟩
        rcases hcase with ⟨_, e0⟩ | ⟨z, hz, r, hL, hzf, _⟩
        · exact e1 e0
        · have hz' := h.st.facts hz
          refine e ⟨e1, ?_, ?_⟩
          · omega
          · omega
    unfold setL
    by_cases hdc : d = c
    · subst hdc
      rw [if_pos rfl]
      refine ⟨?_, ?_, ?_⟩
      · rw [m2 _ (by omega) (by omega), w3 _ (by omega), if_neg (by omega), w2 _ (by omega)]
        rw [if_neg (by
          rintro ⟨e1, e2⟩
          rcases hcase with ⟨_, e0⟩ | ⟨z, hz, r, hL, hzf, _⟩
          · exact e1 e0
          · exact hn (by rw [hL, show x.off = f by omega]; simp)), w1 _ (by omega), if_pos rfl]
      · rw [m2 _ (by omega) (by omega), w3 _ (by omega), if_neg (by omega), w2 _ (by omega)]
        rw [if_neg (by
          rintro ⟨e1, e2⟩
          rcases hcase with ⟨_, e0⟩ | ⟨z, hz, r, hL, hzf, _⟩
          · exact e1 e0
          · have hz' := h.st.facts hz
            have hap := h.st.apart x hx z hz
            rcases hap with e | e | e
            · rw [e] at e2; omega
            · omega
            · omega), w1 _ (by omega), if_neg (by omega), if_pos rfl]
        rw [hhead]
      · have hl := h.links d hd
        cases hL : L d with
        | nil => trivial
        | cons o r =>
          rw [hL] at hl hhead
          obtain rfl : f = o := hhead
          obtain ⟨_, l2', l3'⟩ := hl
          have hof : ∃ y ∈ P, y.off = f ∧ f ≠ x.off := by
            obtain ⟨y, hy, e, _⟩ := h.mem d hd f (by rw [hL]; simp)
            exact ⟨y, hy, e, fun e2 => hn (by rw [hL, e2]; simp)⟩
          have hf0 : f ≠ 0 := by
            obtain ⟨y, hy, e, _⟩ := hof
            have := h.st.facts hy; omega
          refine ⟨?_, ?_, ?_⟩
          · rw [hw f hof 16 (.inr rfl), if_pos ⟨hf0, rfl, rfl⟩]
          · rw [hw f hof 8 (.inl rfl), if_neg (by omega)]; exact l2'
          · refine link_congr r _ _ (fun q hq => ?_) l3'
            have hnd := h.nodup d hd
            rw [hL] at hnd
            have hqf : q ≠ f := fun e => (List.nodup_cons.1 hnd).1 (e ▸ hq)
            have hqo : ∃ y ∈ P, y.off = q ∧ q ≠ x.off := by
              obtain ⟨y, hy, e, _⟩ := h.mem d hd q (by rw [hL]; simp [hq])
              exact ⟨y, hy, e, fun e2 => hn (by rw [hL, ← e2]; simp [hq])⟩
            rw [hw q hqo 16 (.inr rfl), hw q hqo 8 (.inl rfl), if_neg (by omega), if_neg (by omega)]
            exact ⟨rfl, rfl⟩
    · rw [if_neg hdc]
      refine link_congr (L d) _ _ (fun q hq => ?_) (h.links d hd)
      obtain ⟨y, hy, e, _, hcl⟩ := h.mem d hd q hq
      have hqx : q ≠ x.off := fun e2 => by
        have := h.st.uniq hy hx (by omega)
        subst this
        rw [hc] at hcl; omega
      have hqf : ¬ (f ≠ 0 ∧ q = f ∧ (16 : Nat) = 16) := by
        rintro ⟨e1, e2, _⟩
        rcases hcase with ⟨_, e0⟩ | ⟨z, hz, r, hL, hzf, _⟩
        · exact e1 e0
        · obtain ⟨z2, hz2, e3, _, hcl2⟩ := h.mem c hc22 f (by rw [hL]; simp)
          have := h.st.uniq hy hz2 (by omega)
          subst this
          rw [hcl] at hcl2; omega
      rw [hw q ⟨y, hy, e, hqx⟩ 16 (.inr rfl), hw q ⟨y, hy, e, hqx⟩ 8 (.inl rfl), if_neg hqf, if_neg (by omega)]
      exact ⟨rfl, rfl⟩
  · unfold setL
    by_cases hdc : d = c
    · subst hdc
      rw [if_pos rfl]
      exact List.nodup_cons.2 ⟨hn, h.nodup d hd⟩
    · rw [if_neg hdc]; exact h.nodup d hd
end
end Go.Proofs.YtbemaoncakcnjaaGreat

/- One bit of a number: and, or, and not; what marks a class. No program in sight. -/
namespace Go.Proofs.YtbemaoncakcnjaaGreat

theorem bitN_test (w c : Nat) : bitN w c = w.testBit c := by
  unfold bitN
  rw [Nat.testBit_eq_decide_div_mod_eq, Bool.eq_iff_iff, beq_iff_eq, decide_eq_true_eq]
theorem pow22 (c : Nat) (hc : c < 22) : 2 ^ c ≤ 2097152 := Nat.pow_le_pow_right (n := 2) (by decide) (show c ≤ 21 by omega)
/-- A number with one of its bits so. -/
def bitTo (v c : Nat) (b : Bool) : Nat := if b then (if bitN v c then v else v + 2 ^ c) else (if bitN v c then v - 2 ^ c else v)
theorem bitTo_lt (v c : Nat) (hc : c < 22) (hv : v < 18446744073709551616) (b : Bool) : bitTo v c b < 18446744073709551616 := by
  unfold bitTo
  cases hb : bitN v c with
  | true =>
    have := Nat.sub_le v (2 ^ c)
    cases b <;> simp <;> omega
  | false =>
    have := bitN_lt v c (by omega) hv hb
    cases b <;> simp <;> omega
theorem bitTo_off (v c : Nat) : bitN (bitTo v c false) c = false := by
  unfold bitTo
  cases hb : bitN v c with
  | true => simpa using bitN_sub_c v c hb
  | false => simpa using hb
theorem bitTo_on (v c : Nat) : bitTo v c true = bitTo v c false + 2 ^ c := by
  unfold bitTo
  cases hb : bitN v c with
  | true =>
    have := bitN_ge v c hb
    simp
    omega
  | false => simp
theorem and_bit (v c : Nat) (hv : v < 18446744073709551616) (hc : c < 22) : (bits .and .u64 (v : Int) ((2 ^ c : Nat) : Int) != 0) = bitN v c := by
  have hp : 0 < 2 ^ c := Nat.two_pow_pos c
  rw [u64_and_nat v (2 ^ c) hv (by have := pow22 c hc; omega), nat_bit]
  unfold bitN
  have h : v / 2 ^ c % 2 = 0 ∨ v / 2 ^ c % 2 = 1 := by omega
  rcases h with h | h
  · rw [h]; simp
  · rw [h, Nat.one_mul, Bool.eq_iff_iff, bne_iff_ne]
    simp only [beq_self_eq_true, iff_true]
    omega
theorem andnot_bit (v c : Nat) (hv : v < 18446744073709551616) (hc : c < 22) : bits .andNot .u64 (v : Int) ((2 ^ c : Nat) : Int) = (bitTo v c false : Int) := by
  have h22 := pow22 c hc
  rw [u64_andNot_nat v (2 ^ c) hv (by omega)]
  refine congrArg Int.ofNat (Nat.eq_of_testBit_eq fun d => ?_)
  have e : 18446744073709551615 - 2 ^ c = 2 ^ 64 - (2 ^ c + 1) := by omega
  rw [Nat.testBit_and, e, Nat.testBit_two_pow_sub_succ (by omega), Nat.testBit_two_pow]
  unfold bitTo
  have hbig : 64 ≤ d → v.testBit d = false := fun h => Nat.testBit_lt_two_pow (Nat.lt_of_lt_of_le hv (Nat.pow_le_pow_right (n := 2) (by decide) h))
  cases hb : bitN v c with
  | true =>
    have h2 := bitN_sub v c hb d
    rw [bitN_test, bitN_test] at h2
    simp only [if_true, Bool.false_eq_true, if_false]
    rw [h2]
    by_cases hd : d = c
    · rw [if_pos hd, hd]; simp
    · rw [if_neg hd]
      by_cases h64 : d < 64
      · simp [h64, Ne.symm hd]
      · rw [hbig (by omega)]; simp
  | false =>
    simp only [Bool.false_eq_true, if_false]
    by_cases hd : d = c
    · rw [bitN_test] at hb
      rw [hd, hb]; simp
    · by_cases h64 : d < 64
      · simp [h64, Ne.symm hd]
      · rw [hbig (by omega)]; simp
theorem or_bit (v c : Nat) (hv : v < 18446744073709551616) (hc : c < 22) (hb : bitN v c = false) : bits .or .u64 (v : Int) ((2 ^ c : Nat) : Int) = ((v + 2 ^ c : Nat) : Int) := by
  have h22 := pow22 c hc
  rw [u64_or_nat v (2 ^ c) hv (by omega)]
  refine congrArg Int.ofNat (Nat.eq_of_testBit_eq fun d => ?_)
  have h2 := bitN_add v c hb d
  rw [bitN_test, bitN_test] at h2
  rw [Nat.testBit_or, Nat.testBit_two_pow, h2]
  by_cases hd : d = c
  · rw [if_pos hd, hd]; simp
  · rw [if_neg hd]; simp [Ne.symm hd]
theorem lyN_self (bs : List UInt8) (o : Nat) (h : o + 8 ≤ bs.length) : lyN bs o (wordN bs o) = bs := by
  have e : lowB 8 (numB ((bs.drop o).take 8)) = (bs.drop o).take 8 := by
    have := lowB_numB ((bs.drop o).take 8)
    rwa [List.length_take, List.length_drop, Nat.min_eq_left (by omega)] at this
  unfold lyN wordN
  rw [e, ← List.drop_drop, List.take_append_drop, List.take_append_drop]
/-- What marks a class, all at once. -/
theorem markB_eq (bs : List UInt8) (c : Nat) (hl : 8 ≤ bs.length) : markB bs c = lyN bs 0 (bitTo (wordN bs 0) c (decide (wordN bs (8 + 8 * c) ≠ 0))) := by
  have hs := lyN_self bs 0 (by omega)
  unfold markB bitTo
  by_cases h0 : wordN bs (8 + 8 * c) = 0
  · cases hb : bitN (wordN bs 0) c <;> simp [h0, hs]
  · cases hb : bitN (wordN bs 0) c <;> simp [h0, hs]
/-- A member, by the class of what stands there. -/
theorem memberB_free (bs : List UInt8) (p c : Nat) : memberB bs p (c : Int) = (decide (p ≤ 20000) && (freeI bs (p : Int) == (c : Int))) := by
  unfold memberB freeI
  congr 1
  cases hg : getB bs (p : Int) with
  | none => simp
  | some x =>
    cases hu : x.used with
    | true => simp [hu]
    | false => simp [hu]
/-- Has a member this number there? -/
def memHas (bs : List UInt8) (c v k u : Nat) : Bool := memberB bs v (c : Int) && (wordN bs (v + k) == u)
theorem memberB_in {bs : List UInt8} {p c : Nat} (h : memberB bs p (c : Int) = true) : 184 ≤ p ∧ p + 32 ≤ bs.length := by
  unfold memberB at h
  cases hg : getB bs (p : Int) with
  | none => rw [hg] at h; simp at h
  | some y =>
    obtain ⟨r1, r2, _, r3, r4, _⟩ := getB_some hg
    have := (isSz_iff _).1 r4
    omega
theorem freeI_in {bs : List UInt8} {o : Int} {c : Nat} (h : freeI bs o = (c : Int)) : 184 ≤ o ∧ o + 32 ≤ bs.length ∧ c < 22 := by
  unfold freeI at h
  cases hg : getB bs o with
  | none => rw [hg] at h; dsimp only at h; omega
  | some y =>
    obtain ⟨r1, r2, _, r3, r4, _⟩ := getB_some hg
    have := (isSz_iff _).1 r4
    obtain ⟨d, hd, hd2⟩ := class_nat r4
    rw [hg] at h
    dsimp only at h
    split at h <;> omega
theorem freeI_cases (bs : List UInt8) (o : Int) : freeI bs o < 0 ∨ ∃ c : Nat, freeI bs o = (c : Int) := by
  by_cases h : freeI bs o < 0
  · exact .inl h
  · exact .inr ⟨(freeI bs o).toNat, by omega⟩
end Go.Proofs.YtbemaoncakcnjaaGreat

/- Lists of free blocks in bytes: what Take comes to where the lists are right. No program in sight. -/
namespace Go.Proofs.YtbemaoncakcnjaaGreat

section
variable {bs : List UInt8} {P : List Bk} {L : Nat → List Nat}
theorem Lists.take (h : Lists bs P L) {x : Bk} (hx : x ∈ P) {c : Nat} (hc22 : c < 22) (ho : x.off ∈ L c) :
    ∃ bs', takeB bs (x.off : Int) = some bs' ∧ Lists bs' P (setL L c ((L c).filter fun q => decide (q ≠ x.off))) ∧ bs'.length = bs.length ∧ Kept P bs bs' := by
  have hf := h.st.facts hx
  have hlen := h.len
  have hsm := h.small
  obtain ⟨hxu, hxc⟩ : x.used = false ∧ classI (x.size : Int) = (c : Int) := by
    obtain ⟨y, hy, e, hu, hcl⟩ := h.mem c hc22 x.off ho
    have := h.st.uniq hy hx e
    subst this
    exact ⟨hu, hcl⟩
  have hfr : freeI bs (x.off : Int) = (c : Int) := by unfold freeI; rw [h.st.at_ x hx]; simp [hxu, hxc]
  obtain ⟨l1, l2, hL⟩ := List.append_of_mem ho
  have hnd := h.nodup c hc22
  have hlk := h.links c hc22
  rw [hL] at hnd hlk
  have hn1 : x.off ∉ l1 := fun e => by
    have := (List.nodup_append.1 hnd).2.2 x.off e x.off (by simp)
    exact this rfl
  have hn2 : x.off ∉ l2 := (List.nodup_cons.1 (List.nodup_append.1 hnd).2.1).1
  have hnd12 : (l1 ++ l2).Nodup := by
    refine List.nodup_append.2 ⟨(List.nodup_append.1 hnd).1, (List.nodup_cons.1 (List.nodup_append.1 hnd).2.1).2, fun a ha b hb => ?_⟩
    exact (List.nodup_append.1 hnd).2.2 a ha b (by simp [hb])
  have hfil : (L c).filter (fun q => decide (q ≠ x.off)) = l1 ++ l2 := by
    rw [hL, List.filter_append, List.filter_cons_of_neg (by simp)]
    congr 1
    · exact List.filter_eq_self.2 fun a ha => by simpa using fun e : a = x.off => hn1 (e ▸ ha)
    · exact List.filter_eq_self.2 fun a ha => by simpa using fun e : a = x.off => hn2 (e ▸ ha)
  rw [hfil]
  rw [link_append] at hlk
  obtain ⟨hk1, hk2, hk3, hk4⟩ := hlk
  obtain ⟨p, hp⟩ : ∃ p, l1.getLastD 0 = p := ⟨_, rfl⟩
  obtain ⟨n, hn⟩ : ∃ n, l2.headD 0 = n := ⟨_, rfl⟩
  rw [hp] at hk2
  rw [hn] at hk3
  -- what is ahead, and what is behind
  have inP : ∀ q, q ∈ L c → memberB bs q (c : Int) = true ∧ ∃ y ∈ P, y.off = q ∧ y.used = false := fun q hq => by
    obtain ⟨m, y, hy, e, hu, _⟩ := h.member hc22 hq
    exact ⟨m, y, hy, e, hu⟩
  have hpc : (l1 = [] ∧ p = 0) ∨ ∃ l, l1 = l ++ [p] ∧ p ∈ L c ∧ p ≠ x.off := by
    rcases List.eq_nil_or_concat l1 with e | ⟨l, q, e⟩
    · left; subst e; exact ⟨rfl, hp.symm⟩
    · right
      subst e
      have : q = p := by rw [← hp]; simp
      subst this
      exact ⟨l, by simp, by rw [hL]; simp, fun e => hn1 (by rw [← e]; simp)⟩
  have hnc : (l2 = [] ∧ n = 0) ∨ ∃ r, l2 = n :: r ∧ n ∈ L c ∧ n ≠ x.off := by
    cases l2 with
    | nil => left; exact ⟨rfl, hn.symm⟩
    | cons q r =>
      right
      obtain rfl : q = n := hn
      exact ⟨r, rfl, by rw [hL]; simp, fun e => hn2 (by rw [← e]; simp)⟩
  have hpn : p ≠ 0 → n ≠ 0 → p ≠ n := fun e1 e2 e => by
    rcases hpc with ⟨_, e0⟩ | ⟨l, el, _⟩
    · exact e1 e0
    · rcases hnc with ⟨_, e0⟩ | ⟨r, er, _⟩
      · exact e2 e0
      · have := (List.nodup_append.1 hnd12).2.2 p (by rw [el]; simp) n (by rw [er]; simp)
        exact this e
  have hplt : p < 18446744073709551616 := by rw [← hk2]; exact wordN_lt _ _
  have hnlt : n < 18446744073709551616 := by rw [← hk3]; exact wordN_lt _ _
  have hfirst : ¬ (p ≠ 0 ∧ (wordN bs (8 + 8 * c) : Int) = (x.off : Int)) := by
    rintro ⟨e1, e2⟩
    rcases hpc with ⟨_, e0⟩ | ⟨l, el, _⟩
    · exact e1 e0
    · have hh := h.head c hc22
      rw [hL, el] at hh
      refine hn1 ?_
      rw [el]
      cases l with
      | nil =>
        have hh : wordN bs (8 + 8 * c) = p := hh
        rw [show x.off = p by omega]
        simp
      | cons q r =>
        have hh : wordN bs (8 + 8 * c) = q := hh
        rw [show x.off = q by omega]
        simp
  have hput : takeB bs (x.off : Int) = some (markB (if n ≠ 0 then lyN (if p = 0 then lyN bs (8 + 8 * c) n else lyN bs (p + 8) n) (n + 16) p else (if p = 0 then lyN bs (8 + 8 * c) n else lyN bs (p + 8) n)) c) := by
    unfold takeB
    rw [hfr, if_neg (by omega)]
    simp only [Int.toNat_natCast, hk2, hk3]
    rw [if_neg, if_neg, if_neg, if_neg hfirst]
    · rintro ⟨e1, e2⟩
      rcases hnc with ⟨_, e0⟩ | ⟨r, er, hm, _⟩
      · exact e1 e0
      · rcases e2 with e2 | e2
        · rw [(inP n hm).1] at e2; cases e2
        · rw [er] at hk4
          exact e2 (by rw [hk4.1])
    · rintro ⟨e1, e2⟩
      rcases hpc with ⟨_, e0⟩ | ⟨l, el, hm, _⟩
      · exact e1 e0
      · rcases e2 with e2 | e2
        · rw [(inP p hm).1] at e2; cases e2
        · rw [el, link_append] at hk1
          exact e2 (by rw [hk1.2.2.1]; rfl)
    · rintro ⟨e1, e2⟩
      rcases hpc with ⟨e0, _⟩ | ⟨l, el, hm, _⟩
      · have := h.head c hc22
        rw [hL, e0] at this
        exact e2 (by rw [this]; rfl)
      · obtain ⟨_, y, hy, e, _⟩ := inP p hm
        have := h.st.facts hy
        omega
  obtain ⟨b1, hb1⟩ : ∃ b1, (if p = 0 then lyN bs (8 + 8 * c) n else lyN bs (p + 8) n) = b1 := ⟨_, rfl⟩
  have f1 : b1.length = bs.length ∧ Stands b1 P ∧ (∀ q, q % 8 = 0 → wordN b1 q = if q = (if p = 0 then 8 + 8 * c else p + 8) then n else wordN bs q) ∧ Kept P bs b1 := by
    rcases hpc with ⟨_, e0⟩ | ⟨l, el, hm, _⟩
    · rw [if_pos e0] at hb1
      subst hb1
      refine ⟨lyN_length _ _ _ (by omega), h.st.lay _ _ (.inl (by omega)) hlen, fun q hq => ?_, Kept.ly P _ _ _ (by omega) (.inl (by omega))⟩
      rw [wordN_ly _ _ _ _ (by omega) hnlt hq (by omega), if_pos e0]
    · obtain ⟨_, y, hy, e, hu⟩ := inP p hm
      have hy' := h.st.facts hy
      have e0 : p ≠ 0 := by omega
      rw [if_neg e0] at hb1
      subst hb1
      refine ⟨lyN_length _ _ _ (by omega), h.st.lay _ _ (.inr ⟨y, hy, by omega, by omega⟩) hlen, fun q hq => ?_, Kept.ly P _ _ _ (by omega) (.inr ⟨y, hy, hu, .inl (by omega)⟩)⟩
      rw [wordN_ly _ _ _ _ (by omega) hnlt hq (by omega), if_neg e0]
  obtain ⟨g1, st1, w1, k1⟩ := f1
  rw [hb1] at hput
  obtain ⟨b2, hb2⟩ : ∃ b2, (if n ≠ 0 then lyN b1 (n + 16) p else b1) = b2 := ⟨_, rfl⟩
  have f2 : b2.length = bs.length ∧ Stands b2 P ∧ (∀ q, q % 8 = 0 → wordN b2 q = if n ≠ 0 ∧ q = n + 16 then p else wordN b1 q) ∧ Kept P b1 b2 := by
    rcases hnc with ⟨_, e0⟩ | ⟨r, er, hm, _⟩
    · rw [if_neg (by omega)] at hb2
      subst hb2
      exact ⟨g1, st1, fun q _ => by rw [if_neg (by omega)], Kept.refl _ _⟩
    · obtain ⟨_, y, hy, e, hu⟩ := inP n hm
      have hy' := h.st.facts hy
      have e0 : n ≠ 0 := by omega
      rw [if_pos e0] at hb2
      subst hb2
      refine ⟨by rw [lyN_length _ _ _ (by omega)]; exact g1, st1.lay _ _ (.inr ⟨y, hy, by omega, by omega⟩) (by omega), fun q hq => ?_, Kept.ly P _ _ _ (by omega) (.inr ⟨y, hy, hu, .inr (by omega)⟩)⟩
      rw [wordN_ly _ _ _ _ (by omega) hplt hq (by omega)]
      by_cases e2 : q = n + 16
      · rw [if_pos e2, if_pos ⟨e0, e2⟩]
      · rw [if_neg e2, if_neg (fun h => e2 h.2)]
  obtain ⟨g2, st2, w2, k2⟩ := f2
  rw [hb2] at hput
  obtain ⟨m1, m2, m3, m4, m5⟩ := markB_spec b2 c hc22 (by omega)
  have n184 : n = 0 ∨ (184 ≤ n ∧ n % 16 = 8) := by
    rcases hnc with ⟨_, e0⟩ | ⟨r, er, hm, _⟩
    · exact .inl e0
    · obtain ⟨_, y, hy, e, _⟩ := inP n hm
      have := h.st.facts hy; omega
  have p184 : p = 0 ∨ (184 ≤ p ∧ p % 16 = 8) := by
    rcases hpc with ⟨_, e0⟩ | ⟨r, er, hm, _⟩
    · exact .inl e0
    · obtain ⟨_, y, hy, e, _⟩ := inP p hm
      have := h.st.facts hy; omega
  have hhead : wordN b2 (8 + 8 * c) = (l1 ++ l2).headD 0 := by
    rw [w2 _ (by omega), if_neg (by omega), w1 _ (by omega)]
    have hh := h.head c hc22
    rw [hL] at hh
    rcases hpc with ⟨el, e0⟩ | ⟨l, el, _⟩
    · rw [if_pos e0, if_pos rfl, el, ← hn]; rfl
    · have e0 : p ≠ 0 := by
        rcases p184 with e | e
        · obtain ⟨_, y, hy, e2, _⟩ := inP p (by rw [hL, el]; simp)
          have := h.st.facts hy; omega
        · omega
      rw [if_neg e0, if_neg (by omega), hh, el]
      cases l <;> rfl
  have hw : ∀ o, (∃ y ∈ P, y.off = o) → ∀ k, k = 8 ∨ k = 16 → wordN (markB b2 c) (o + k) = if p ≠ 0 ∧ o = p ∧ k = 8 then n else if n ≠ 0 ∧ o = n ∧ k = 16 then p else wordN bs (o + k) := by
    rintro o ⟨y, hy, rfl⟩ k hk
    have hy' := h.st.facts hy
    rw [m2 _ (by omega) (by omega), w2 _ (by omega), w1 _ (by omega)]
    by_cases e1 : p ≠ 0 ∧ y.off = p ∧ k = 8
    · rw [if_pos e1, if_neg (by omega), if_pos (by rw [if_neg e1.1]; omega)]
    · rw [if_neg e1]
      by_cases e2 : n ≠ 0 ∧ y.off = n ∧ k = 16
      · rw [if_pos e2, if_pos (by omega)]
      · rw [if_neg e2, if_neg (by omega), if_neg]
        by_cases e0 : p = 0
        · rw [if_pos e0]; omega
        · rw [if_neg e0]; omega
  refine ⟨_, hput, ⟨by omega, by omega, m4 P st2, fun d hd => ?_, fun d hd => ?_, fun d hd o ho => ?_, fun d hd => ?_, fun d hd => ?_⟩, by omega, (k1.trans k2).trans fun i h1 _ => m5 i (by omega)⟩
  · rw [m2 _ (by omega) (by omega)]
    unfold setL
    by_cases hdc : d = c
    · subst hdc; rw [if_pos rfl]; exact hhead
    · rw [if_neg hdc, ← h.head d hd, w2 _ (by omega), if_neg (by omega), w1 _ (by omega), if_neg]
      by_cases e0 : p = 0
      · rw [if_pos e0]; omega
      · rw [if_neg e0]; omega
  · rw [m3 d]
    unfold setL
    by_cases hdc : d = c
    · rw [if_pos hdc, if_pos hdc, hhead]
      cases hl : l1 ++ l2 with
      | nil => rfl
      | cons q r =>
        have hq : q ∈ L c := by
          rw [hL]
          have : q ∈ l1 ++ l2 := by rw [hl]; simp
          rcases List.mem_append.1 this with h1 | h1
          · exact List.mem_append_left _ h1
          · exact List.mem_append_right _ (List.mem_cons_of_mem _ h1)
        obtain ⟨_, y, hy, e, _⟩ := inP q hq
        have := h.st.facts hy
        have h0 : q ≠ 0 := by omega
        simp [h0]
    · rw [if_neg hdc, if_neg hdc, ← h.bit d hd, w2 _ rfl, if_neg (by omega), w1 _ rfl, if_neg]
      by_cases e0 : p = 0
      · rw [if_pos e0]; omega
      · rw [if_neg e0]; omega
  · unfold setL at ho
    by_cases hdc : d = c
    · subst hdc
      rw [if_pos rfl] at ho
      refine h.mem d hd o ?_
      rw [hL]
      rcases List.mem_append.1 ho with h1 | h1
      · exact List.mem_append_left _ h1
      · exact List.mem_append_right _ (List.mem_cons_of_mem _ h1)
    · rw [if_neg hdc] at ho
      exact h.mem d hd o ho
  · unfold setL
    by_cases hdc : d = c
    · subst hdc
      rw [if_pos rfl, link_append, hp, hn]
      have inl1 : ∀ q ∈ l1, ∃ y ∈ P, y.off = q := fun q hq => by
        obtain ⟨_, y, hy, e, _⟩ := inP q (by rw [hL]; simp [hq])
        exact ⟨y, hy, e⟩
      have inl2 : ∀ q ∈ l2, ∃ y ∈ P, y.off = q := fun q hq => by
        obtain ⟨_, y, hy, e, _⟩ := inP q (by rw [hL]; simp [hq])
        exact ⟨y, hy, e⟩
      have ne12 : ∀ q ∈ l1, n ≠ 0 → q ≠ n := fun q hq e0 e => by
        rcases hnc with ⟨_, e1⟩ | ⟨r, er, _⟩
        · exact e0 e1
        · exact (List.nodup_append.1 hnd12).2.2 q hq n (by rw [er]; simp) e
      have ne21 : ∀ q ∈ l2, p ≠ 0 → q ≠ p := fun q hq e0 e => by
        rcases hpc with ⟨_, e1⟩ | ⟨l, el, _⟩
        · exact e0 e1
        · exact (List.nodup_append.1 hnd12).2.2 p (by rw [el]; simp) q hq e.symm
      refine ⟨?_, ?_⟩
      · rcases hpc with ⟨el, e0⟩ | ⟨l, el, _⟩
        · rw [el]; trivial
        · have e0 : p ≠ 0 := by
            obtain ⟨y, hy, e2⟩ := inl1 p (by rw [el]; simp)
            have := h.st.facts hy; omega
          rw [el, link_append] at hk1 ⊢
          obtain ⟨hq1, hq2, hq3, _⟩ := hk1
          have hpl : p ∉ l := fun e => by
            have := (List.nodup_append.1 hnd12).1
            rw [el] at this
            exact (List.nodup_append.1 this).2.2 p e p (by simp) rfl
          refine ⟨link_congr l _ _ (fun q hq => ?_) hq1, ?_, ?_, trivial⟩
          · have hqi := inl1 q (by rw [el]; simp [hq])
            have hqp : q ≠ p := fun e => hpl (e ▸ hq)
            have hqn := ne12 q (by rw [el]; simp [hq])
            rw [hw q hqi 16 (.inr rfl), hw q hqi 8 (.inl rfl), if_neg (by omega), if_neg (fun e => hqn e.1 e.2.1), if_neg (fun e => hqp e.2.1), if_neg (by omega)]
            exact ⟨rfl, rfl⟩
          · rw [hw p (inl1 p (by rw [el]; simp)) 16 (.inr rfl), if_neg (by omega), if_neg (fun e => hpn e0 e.1 e.2.1)]
            exact hq2
          · rw [hw p (inl1 p (by rw [el]; simp)) 8 (.inl rfl), if_pos ⟨e0, rfl, rfl⟩]
            rfl
      · rcases hnc with ⟨er, e0⟩ | ⟨r, er, _⟩
        · rw [er]; trivial
        · have e0 : n ≠ 0 := by
            obtain ⟨y, hy, e2⟩ := inl2 n (by rw [er]; simp)
            have := h.st.facts hy; omega
          rw [er] at hk4 ⊢
          obtain ⟨hq1, hq2, hq3⟩ := hk4
          have hnr : n ∉ r := fun e => by
            have := (List.nodup_append.1 hnd12).2.1
            rw [er] at this
            exact (List.nodup_cons.1 this).1 e
          refine ⟨?_, ?_, link_congr r _ _ (fun q hq => ?_) hq3⟩
          · rw [hw n (inl2 n (by rw [er]; simp)) 16 (.inr rfl), if_neg (by omega), if_pos ⟨e0, rfl, rfl⟩]
          · rw [hw n (inl2 n (by rw [er]; simp)) 8 (.inl rfl), if_neg (fun e => ne21 n (by rw [er]; simp) e.1 e.2.1), if_neg (by omega)]
            exact hq2
          · have hqi := inl2 q (by rw [er]; simp [hq])
            have hqn : q ≠ n := fun e => hnr (e ▸ hq)
            have hqp := ne21 q (by rw [er]; simp [hq])
            rw [hw q hqi 16 (.inr rfl), hw q hqi 8 (.inl rfl), if_neg (by omega), if_neg (fun e => hqn e.2.1), if_neg (fun e => hqp e.1 e.2.1), if_neg (by omega)]
            exact ⟨rfl, rfl⟩
    · rw [if_neg hdc]
      refine link_congr (L d) _ _ (fun q hq => ?_) (h.links d hd)
      obtain ⟨y, hy, e, _, hcl⟩ := h.mem d hd q hq
      have other : ∀ z, z ∈ L c → q ≠ z := fun z hz e2 => by
        obtain ⟨z2, hz2, e3, _, hcl2⟩ := h.mem c hc22 z hz
        have := h.st.uniq hy hz2 (by omega)
        subst this
        rw [hcl] at hcl2; omega
      have hqp : ¬ (p ≠ 0 ∧ q = p) := by
        rintro ⟨e1, e2⟩
        rcases hpc with ⟨_, e0⟩ | ⟨l, el, hm, _⟩
        · exact e1 e0
        · exact other p hm e2
      have hqn : ¬ (n ≠ 0 ∧ q = n) := by
        rintro ⟨e1, e2⟩
        rcases hnc with ⟨_, e0⟩ | ⟨l, el, hm, _⟩
        · exact e1 e0
        · exact other n hm e2
      rw [hw q ⟨y, hy, e⟩ 16 (.inr rfl), hw q ⟨y, hy, e⟩ 8 (.inl rfl), if_neg (fun e => hqp ⟨e.1, e.2.1⟩), if_neg (fun e => hqn ⟨e.1, e.2.1⟩), if_neg (fun e => hqp ⟨e.1, e.2.1⟩), if_neg (fun e => hqn ⟨e.1, e.2.1⟩)]
      exact ⟨rfl, rfl⟩
  · unfold setL
    by_cases hdc : d = c
    · rw [if_pos hdc]; exact hnd12
    · rw [if_neg hdc]; exact h.nodup d hd
end
end Go.Proofs.YtbemaoncakcnjaaGreat

/- Blocks one behind the other: what comes of setting them all, of walking, of looking ahead. Plain facts, no program in sight. -/
namespace Go.Proofs.YtbemaoncakcnjaaGreat

def tagN (x : Bk) : Nat := packN (x.size : Int) x.used
/-- Both tags of a block laid. -/
def setT (bs : List UInt8) (x : Bk) : List UInt8 := lyN (lyN bs x.off (tagN x)) (x.off + x.size - 8) (tagN x)
/-- One behind the other, from o to e. -/
def tile : Nat → List Bk → Nat → Prop
  | o, [], e => o = e
  | o, x :: r, e => x.off = o ∧ isSz (x.size : Int) = true ∧ tile (o + x.size) r e

theorem tile_mem : ∀ (l : List Bk) (o e : Nat), tile o l e → o ≤ e ∧ ∀ x ∈ l, o ≤ x.off ∧ x.off + x.size ≤ e ∧ isSz (x.size : Int) = true ∧ x.off % 16 = o % 16
  | [], o, e, h => ⟨Nat.le_of_eq h, fun x hx => by cases hx⟩
  | y :: r, o, e, ⟨h1, h2, h3⟩ => by
    obtain ⟨q, h⟩ := tile_mem r _ e h3
    have hs := (isSz_iff _).1 h2
    refine ⟨by omega, fun x hx => ?_⟩
    rcases List.mem_cons.1 hx with rfl | hx
    · exact ⟨by omega, by omega, h2, by omega⟩
    · obtain ⟨a, b, c, d⟩ := h x hx
      exact ⟨by omega, b, c, by omega⟩
/-- Two of them are the same, or apart. -/
theorem tile_apart : ∀ (l : List Bk) (o e : Nat), tile o l e → ∀ x ∈ l, ∀ y ∈ l, x = y ∨ x.off + x.size ≤ y.off ∨ y.off + y.size ≤ x.off
  | [], _, _, _, x, hx, _, _ => by cases hx
  | z :: r, o, e, ⟨h1, h2, h3⟩, x, hx, y, hy => by
    have hm := (tile_mem r _ e h3).2
    rcases List.mem_cons.1 hx with rfl | hx'
    · rcases List.mem_cons.1 hy with rfl | hy'
      · exact .inl rfl
      · have := hm y hy'; exact .inr (.inl (by omega))
    · rcases List.mem_cons.1 hy with rfl | hy'
      · have := hm x hx'; exact .inr (.inr (by omega))
      · exact tile_apart r _ e h3 x hx' y hy' 

section
variable {bs : List UInt8} {x y : Bk}
theorem setT_length (hs : isSz (x.size : Int) = true) (h : x.off + x.size ≤ bs.length) : (setT bs x).length = bs.length := by
  have hs := (isSz_iff _).1 hs
  have e := lyN_length bs x.off (tagN x) (by omega)
  unfold setT
  rw [lyN_length _ _ _ (by omega), e]
theorem setT_same (hs : isSz (x.size : Int) = true) (h : x.off + x.size ≤ bs.length) (p : Nat) (hp : p + 8 ≤ x.off ∨ x.off + x.size ≤ p ∨ (x.off + 8 ≤ p ∧ p + 8 ≤ x.off + x.size - 8)) : wordN (setT bs x) p = wordN bs p := by
  have hs := (isSz_iff _).1 hs
  have e := lyN_length bs x.off (tagN x) (by omega)
  unfold setT
  rw [wordN_other _ _ _ _ (by omega) (by omega), wordN_other _ _ _ _ (by omega) (by omega)]
theorem setT_at (h1 : 184 ≤ x.off) (h2 : x.off % 16 = 8) (h3 : x.off + x.size ≤ bs.length) (hs : isSz (x.size : Int) = true) : getB (setT bs x) (x.off : Int) = some x := by
  have q := (isSz_iff _).1 hs
  have e := lyN_length bs x.off (tagN x) (by omega)
  have ht : tagN x < 18446744073709551616 := by have := packN_lt (x.size : Int) x.used; unfold tagN; omega
  have w1 : wordN (setT bs x) x.off = tagN x := by
    unfold setT
    rw [wordN_other _ _ _ _ (by omega) (by omega), wordN_same _ _ _ (by omega) ht]
  have w2 : wordN (setT bs x) (x.off + x.size - 8) = tagN x := by
    unfold setT
    rw [wordN_same _ _ _ (by omega) ht]
  refine getB_of h1 h2 (by rw [setT_length hs h3]; exact h3) ?_ (by rw [w1, w2])
  rw [w1]
  unfold tagN
  rw [unpN_packN hs]
  rfl
theorem setT_keep (hs : isSz (x.size : Int) = true) (h : x.off + x.size ≤ bs.length) (hy : getB bs (y.off : Int) = some y) (hd : y.off + y.size ≤ x.off ∨ x.off + x.size ≤ y.off) : getB (setT bs x) (y.off : Int) = some y := by
  obtain ⟨_, _, _, g3, g4, _⟩ := getB_some hy
  have q := (isSz_iff _).1 g4
  exact getB_congr bs _ y (setT_length hs h) hy (setT_same hs h _ (by omega)) (setT_same hs h _ (by omega))
end

/-- Blocks that stand one behind the other are walked. -/
theorem walkF_tile (bs : List UInt8) : ∀ (l : List Bk) (o k : Nat), tile o l bs.length → (∀ x ∈ l, getB bs (x.off : Int) = some x) → bs.length < o + k → walkF bs k o = some l
  | [], o, k, h, _, hk => by
    have h : o = bs.length := h
    obtain ⟨k, rfl⟩ : ∃ k', k = k' + 1 := ⟨k - 1, by omega⟩
    unfold walkF
    rw [if_neg (by omega)]
  | x :: r, o, k, ⟨h1, h2, h3⟩, hg, hk => by
    have q := (isSz_iff _).1 h2
    have hoe := (tile_mem r _ _ h3).1
    obtain ⟨k, rfl⟩ : ∃ k', k = k' + 1 := ⟨k - 1, by omega⟩
    unfold walkF
    rw [if_pos (by omega), ← h1, hg x (by simp)]
    dsimp only
    rw [h1, walkF_tile bs r (o + x.size) k h3 (fun y hy => hg y (by simp [hy])) (by omega)]
    rfl
theorem walkB_tile {bs : List UInt8} {l : List Bk} (h : tile 184 l bs.length) (hg : ∀ x ∈ l, getB bs (x.off : Int) = some x) : walkB bs = some l := by
  have := (tile_mem l _ _ h).1
  unfold walkB
  rw [if_neg (by omega)]
  exact walkF_tile bs l 184 _ h hg (by omega)
/-- And the other way round: what was walked is one behind the other. -/
theorem walkF_tiles (bs : List UInt8) : ∀ (k o : Nat) (l : List Bk), o ≤ bs.length → walkF bs k o = some l → tile o l bs.length ∧ ∀ x ∈ l, getB bs (x.off : Int) = some x
  | 0, _, _, _, h => by cases h
  | k + 1, o, l, ho, h => by
    unfold walkF at h
    by_cases hlt : o < bs.length
    · rw [if_pos hlt] at h
      cases hg : getB bs (o : Int) with
      | none => rw [hg] at h; cases h
      | some y =>
        rw [hg] at h
        dsimp only at h
        obtain ⟨g0, _, _, g3, g4, _⟩ := getB_some hg
        have g0 : y.off = o := by omega
        cases hr : walkF bs k (o + y.size) with
        | none => rw [hr] at h; cases h
        | some r =>
          rw [hr] at h
          injection h with h
          subst h
          obtain ⟨i1, i2⟩ := walkF_tiles bs k _ r (by omega) hr
          refine ⟨⟨g0, g4, i1⟩, fun x hx => ?_⟩
          rcases List.mem_cons.1 hx with rfl | hx
          · rw [g0]; exact hg
          · exact i2 x hx
    · rw [if_neg hlt] at h
      injection h with h
      subst h
      exact ⟨by show o = bs.length; omega, fun x hx => by cases hx⟩
theorem walkB_tiles {bs : List UInt8} {l : List Bk} (h : walkB bs = some l) : 184 ≤ bs.length ∧ tile 184 l bs.length ∧ ∀ x ∈ l, getB bs (x.off : Int) = some x := by
  unfold walkB at h
  split at h
  · cases h
  · exact ⟨by omega, walkF_tiles bs _ _ l (by omega) h⟩
/-- The block that ends there is told from behind. -/
theorem aheadB_of {bs : List UInt8} {x : Bk} (h : getB bs (x.off : Int) = some x) : aheadB bs ((x.off : Int) + (x.size : Int)) = some x := by
  obtain ⟨_, g1, _, g3, g4, g5, g6⟩ := getB_some h
  have q := (isSz_iff _).1 g4
  unfold aheadB
  rw [if_neg (by omega)]
  have e1 : ((x.off : Int) + (x.size : Int)).toNat - 8 = x.off + x.size - 8 := by omega
  have e2 : (x.off : Int) + (x.size : Int) - (x.size : Int) = (x.off : Int) := by omega
  rw [e1, g6, g5]
  dsimp only
  rw [e2, h]
  dsimp only
  rw [if_pos ⟨rfl, rfl⟩]
/-- Blocks in an arena whose head is 0: all lists are empty. -/
theorem lists_none {bs : List UInt8} {P : List Bk} (hl : 184 ≤ bs.length) (hm : bs.length ≤ 16384) (hst : Stands bs P) (hz : ∀ p, p + 8 ≤ 184 → p % 8 = 0 → wordN bs p = 0) : Lists bs P (fun _ => []) where
  len := hl
  small := hm
  st := hst
  head := fun c hc => by rw [hz _ (by omega) (by omega)]; rfl
  bit := fun c hc => by
    rw [hz 0 (by omega) rfl]
    have : ∀ c, bitN 0 c = false := fun c => by unfold bitN; simp
    rw [this]; rfl
  mem := fun c _ o ho => by cases ho
  links := fun c _ => trivial
  nodup := fun c _ => List.nodup_nil
end Go.Proofs.YtbemaoncakcnjaaGreat

/- The lists made anew, and what is found then. Plain facts, no program in sight. -/
namespace Go.Proofs.YtbemaoncakcnjaaGreat

/-- How many bytes the block at o has. -/
def szB (bs : List UInt8) (o : Nat) : Nat := match getB bs (o : Int) with
  | some x => x.size
  | none => 0
theorem szB_of {bs : List UInt8} {o : Nat} {x : Bk} (h : getB bs (o : Int) = some x) : szB bs o = x.size := by
  unfold szB; rw [h]
/-- The first block from class c on that has so many bytes. -/
def findF (bs : List UInt8) (s : Int) : Nat → Nat → Option Nat
  | 0, _ => some 0
  | k + 1, c => match allB bs c with
    | none => none
    | some l => match l.find? (fun o => decide (s ≤ (szB bs o : Int))) with
      | some o => some o
      | none => findF bs s k (c + 1)
def findB (bs : List UInt8) (s : Int) : Option Nat := findF bs s (22 - (classI s).toNat) (classI s).toNat
/-- A class's free blocks, the last one first. -/
def freeL (l : List Bk) (c : Nat) : List Nat := (l.reverse.filter fun x => !x.used && classI (x.size : Int) == (c : Int)).map Bk.off
theorem freeL_snoc (l : List Bk) (x : Bk) (c : Nat) : freeL (l ++ [x]) c = if x.used = false ∧ classI (x.size : Int) = (c : Int) then x.off :: freeL l c else freeL l c := by
  unfold freeL
  rw [List.reverse_append, List.reverse_singleton, List.singleton_append, List.filter_cons]
  by_cases h : x.used = false ∧ classI (x.size : Int) = (c : Int)
  · rw [if_pos h, if_pos (by simp [h.1, h.2]), List.map_cons]
  · rw [if_neg h, if_neg (by intro h'; apply h; simpa using h')]
theorem freeL_mem {l : List Bk} {c o : Nat} (h : o ∈ freeL l c) : ∃ x ∈ l, x.off = o ∧ x.used = false ∧ classI (x.size : Int) = (c : Int) := by
  unfold freeL at h
  obtain ⟨x, hx, e⟩ := List.mem_map.1 h
  obtain ⟨h1, h2⟩ := List.mem_filter.1 hx
  have h2' : x.used = false ∧ classI (x.size : Int) = (c : Int) := by simpa using h2
  exact ⟨x, List.mem_reverse.1 h1, e, h2'.1, h2'.2⟩
theorem mem_freeL {l : List Bk} {c : Nat} {x : Bk} (h : x ∈ l) (hu : x.used = false) (hc : classI (x.size : Int) = (c : Int)) : x.off ∈ freeL l c := by
  unfold freeL
  exact List.mem_map.2 ⟨x, List.mem_filter.2 ⟨List.mem_reverse.2 h, by simp [hu, hc]⟩, rfl⟩

theorem tile_ne : ∀ (l : List Bk) (o e : Nat), tile o l e → l.Pairwise (fun x y => x.off ≠ y.off)
  | [], _, _, _ => List.Pairwise.nil
  | x :: r, o, e, ⟨h1, h2, h3⟩ => by
    have q := (isSz_iff _).1 h2
    refine List.Pairwise.cons (fun y hy => ?_) (tile_ne r _ e h3)
    have := (tile_mem r _ e h3).2 y hy
    omega
theorem numB_zeros (n : Nat) : numB (List.replicate n 0) = 0 := by
  induction n with
  | zero => rfl
  | succ n ih => rw [List.replicate_succ]; simp [numB, ih]
theorem wordN_zeros (bs : List UInt8) (n p : Nat) (h : p + 8 ≤ n) : wordN (List.replicate n 0 ++ bs) p = 0 := by
  unfold wordN
  rw [List.drop_append_of_le_length (by simp; omega), List.take_append_of_le_length (by simp; omega), List.drop_replicate, List.take_replicate, numB_zeros]
/-- Greater sizes have no lesser class. -/
theorem classI_mono {a b : Int} (ha : isSz a = true) (hb : isSz b = true) (h : a ≤ b) : classI a ≤ classI b := by
  have key : ∀ s : Int, isSz s = true → (s ≤ 256 ∧ classI s = s / 16 - 2) ∨ (256 < s ∧ s < 512 ∧ classI s = 15) ∨ (512 ≤ s ∧ s < 1024 ∧ classI s = 16) ∨ (1024 ≤ s ∧ s < 2048 ∧ classI s = 17) ∨ (2048 ≤ s ∧ s < 4096 ∧ classI s = 18) ∨ (4096 ≤ s ∧ s < 8192 ∧ classI s = 19) ∨ (8192 ≤ s ∧ s < 16384 ∧ classI s = 20) ∨ (16384 ≤ s ∧ classI s = 21) := fun s hs => by
    unfold classI
    rw [if_neg (by rw [hs]; simp)]
    split
    · exact .inl ⟨by assumption, rfl⟩
    · split
      · exact .inr (.inl ⟨by omega, by assumption, rfl⟩)
      · split
        · exact .inr (.inr (.inl ⟨by omega, by assumption, rfl⟩))
        · split
          · exact .inr (.inr (.inr (.inl ⟨by omega, by assumption, rfl⟩)))
          · split
            · exact .inr (.inr (.inr (.inr (.inl ⟨by omega, by assumption, rfl⟩))))
            · split
              · exact .inr (.inr (.inr (.inr (.inr (.inl ⟨by omega, by assumption, rfl⟩)))))
              · split
                · exact .inr (.inr (.inr (.inr (.inr (.inr (.inl ⟨by omega, by assumption, rfl⟩))))))
                · exact .inr (.inr (.inr (.inr (.inr (.inr (.inr ⟨by omega, rfl⟩))))))
  rcases key a ha with h1 | h1 | h1 | h1 | h1 | h1 | h1 | h1 <;> rcases key b hb with h2 | h2 | h2 | h2 | h2 | h2 | h2 | h2 <;> omega
end Go.Proofs.YtbemaoncakcnjaaGreat

/- What Check asks, and that blocks whose lists are made anew are right. Plain facts, no program in sight. -/
namespace Go.Proofs.YtbemaoncakcnjaaGreat

theorem allF_len (bs : List UInt8) (c : Nat) : ∀ (k last p : Nat) (l : List Nat), allF bs c k last p = some l → l.length ≤ k
  | 0, last, p, l, h => by
    unfold allF at h
    split at h
    · injection h with h; subst h; exact Nat.le_refl _
    · cases h
  | k + 1, last, p, l, h => by
    unfold allF at h
    by_cases hp : p = 0
    · rw [if_pos hp] at h; injection h with h; subst h; exact Nat.zero_le _
    · rw [if_neg hp] at h
      dsimp only at h
      by_cases hm : memberB bs p (c : Int) = true ∧ wordN bs (p + 16) = last
      · rw [if_pos hm] at h
        cases hr : allF bs c k p (wordN bs (p + 8)) with
        | none => rw [hr] at h; cases h
        | some l' =>
          rw [hr] at h
          injection h with h
          subst h
          have := allF_len bs c k p _ l' hr
          rw [List.length_cons]; omega
      · rw [if_neg hm] at h; cases h
theorem allB_len {bs : List UInt8} {c : Nat} {l : List Nat} (h : allB bs c = some l) : l.length ≤ 1024 := by
  unfold allB at h
  split at h
  · cases h
  · split at h
    · cases h
    · exact allF_len bs c _ _ _ l h
theorem walkF_len (bs : List UInt8) : ∀ (k o : Nat) (l : List Bk), walkF bs k o = some l → l.length ≤ k
  | 0, _, _, h => by cases h
  | k + 1, o, l, h => by
    unfold walkF at h
    by_cases hlt : o < bs.length
    · rw [if_pos hlt] at h
      cases hg : getB bs (o : Int) with
      | none => rw [hg] at h; cases h
      | some y =>
        rw [hg] at h
        dsimp only at h
        cases hr : walkF bs k (o + y.size) with
        | none => rw [hr] at h; cases h
        | some r =>
          rw [hr] at h
          injection h with h
          subst h
          have := walkF_len bs k _ r hr
          rw [List.length_cons]; omega
    · rw [if_neg hlt] at h
      injection h with h
      subst h
      exact Nat.zero_le _
theorem walkB_len {bs : List UInt8} {l : List Bk} (h : walkB bs = some l) : l.length ≤ bs.length + 1 := by
  unfold walkB at h
  split at h
  · cases h
  · exact walkF_len bs _ _ l h

def cntFree (l : List Bk) : Nat := l.countP fun x => !x.used
def usedAt (l : List Bk) (i : Nat) : Bool := match l[i]? with
  | some x => x.used
  | none => true
def pairOk (l : List Bk) (i : Nat) : Bool := i == 0 || (usedAt l i || usedAt l (i - 1))
def noAdj (l : List Bk) : Bool := (List.range l.length).all (pairOk l)
def foundB (l : List Bk) (o : Nat) : Bool := l.any fun x => x.off == o && !x.used
def okO (l : List Bk) (all : List Nat) (o : Nat) : Bool := foundB l o && all.count o == 1
def chkC (bs : List UInt8) (l : List Bk) : Nat → Nat → Int → Bool
  | 0, _, fr => fr == 0
  | k + 1, c, fr => match allB bs c with
    | none => false
    | some all => all.all (okO l all) && chkC bs l k (c + 1) (fr - all.length)
def checkB (bs : List UInt8) : Bool := match walkB bs with
  | none => false
  | some l => decide (numO bs 0 < 4194304) && (noAdj l && chkC bs l 22 0 (cntFree l))


/-- How many numbers the lists from class c on have. -/
def sumF (l : List Bk) : Nat → Nat → Nat
  | 0, _ => 0
  | k + 1, c => (freeL l c).length + sumF l k (c + 1)
theorem sumF_nil : ∀ k c, sumF [] k c = 0
  | 0, _ => rfl
  | k + 1, c => by
    unfold sumF
    rw [sumF_nil k (c + 1)]; rfl
theorem sumF_snoc (l : List Bk) (x : Bk) : ∀ k c : Nat, sumF (l ++ [x]) k c = sumF l k c + if x.used = false ∧ (c : Int) ≤ classI (x.size : Int) ∧ classI (x.size : Int) < (c : Int) + (k : Int) then 1 else 0
  | 0, c => by
    unfold sumF
    rw [if_neg (by omega)]
  | k + 1, c => by
    unfold sumF
    rw [sumF_snoc l x k (c + 1), freeL_snoc]
    by_cases h : x.used = false ∧ classI (x.size : Int) = (c : Int)
    · rw [if_pos h, if_neg (by have := h.2; omega), if_pos ⟨h.1, by have := h.2; omega, by have := h.2; omega⟩, List.length_cons]
      omega
    · rw [if_neg h]
      by_cases h2 : x.used = false ∧ ((c : Int) ≤ classI (x.size : Int) ∧ classI (x.size : Int) < (c : Int) + ((k + 1 : Nat) : Int))
      · have : ¬ classI (x.size : Int) = (c : Int) := fun e => h ⟨h2.1, e⟩
        rw [if_pos h2, if_pos ⟨h2.1, by have := h2.2; omega, by have := h2.2; omega⟩]
        omega
      · rw [if_neg h2, if_neg (fun h3 => h2 ⟨h3.1, by have := h3.2; omega, by have := h3.2; omega⟩)]
        omega
/-- All classes have just the free ones. -/
theorem sumF_all (l : List Bk) (h : ∀ x ∈ l, isSz (x.size : Int) = true) : sumF l 22 0 = cntFree l := by
  have key : ∀ (r d : List Bk), (∀ x ∈ r, isSz (x.size : Int) = true) → sumF d 22 0 = cntFree d → sumF (d ++ r) 22 0 = cntFree (d ++ r) := by
    intro r
    induction r with
    | nil => intro d _ hd; rw [List.append_nil]; exact hd
    | cons x r ih =>
      intro d hr hd
      have e : d ++ x :: r = (d ++ [x]) ++ r := by simp
      rw [e]
      refine ih (d ++ [x]) (fun y hy => hr y (by simp [hy])) ?_
      obtain ⟨c, hc, hc22⟩ := class_nat (hr x (by simp))
      rw [sumF_snoc, hd]
      unfold cntFree
      rw [List.countP_append]
      cases hu : x.used with
      | true => rw [if_neg (by simp)]; simp [hu]
      | false => rw [if_pos ⟨rfl, by omega, by omega⟩]; simp [hu]
  have := key l [] h (sumF_nil 22 0)
  simpa using this

theorem freeL_len (l : List Bk) (c : Nat) : (freeL l c).length ≤ l.length := by
  unfold freeL
  rw [List.length_map]
  have := List.length_filter_le (fun x : Bk => !x.used && classI (x.size : Int) == (c : Int)) l.reverse
  rw [List.length_reverse] at this
  exact this
theorem chkC_lists {bs : List UInt8} {l : List Bk} (h : Lists bs l (freeL l)) (hl : l.length ≤ 1024) : ∀ (k c : Nat) (fr : Int), c + k = 22 → chkC bs l k c fr = (fr - sumF l k c == 0)
  | 0, c, fr, _ => by unfold chkC sumF; simp
  | k + 1, c, fr, hc => by
    have ha := h.all (c := c) (by omega) (Nat.le_trans (freeL_len l c) hl)
    have hok : (freeL l c).all (okO l (freeL l c)) = true := by
      rw [List.all_eq_true]
      intro o ho
      unfold okO foundB
      rw [Bool.and_eq_true]
      constructor
      · rw [List.any_eq_true]
        obtain ⟨x, hx, e, hu, _⟩ := freeL_mem ho
        exact ⟨x, hx, by simp [e, hu]⟩
      · rw [List.Nodup.count (h.nodup c (by omega)), if_pos ho]; rfl
    unfold chkC
    rw [ha]
    dsimp only
    rw [hok, Bool.true_and, chkC_lists h hl k (c + 1) _ (by omega)]
    have e : fr - (sumF l (k + 1) c : Nat) = fr - ((freeL l c).length : Int) - (sumF l k (c + 1) : Nat) := by
      have : sumF l (k + 1) c = (freeL l c).length + sumF l k (c + 1) := rfl
      omega
    rw [e]
/-- With lists of just the free ones: right, if no two free ones stand together. -/
theorem checkB_lists {bs : List UInt8} {l : List Bk} (hw : walkB bs = some l) (h : Lists bs l (freeL l)) (h0 : wordN bs 0 < 4194304) : checkB bs = noAdj l := by
  obtain ⟨h184, ht, hg⟩ := walkB_tiles hw
  have hm := tile_mem l _ _ ht
  have hlen : l.length ≤ 1024 := by
    have key : ∀ (l : List Bk) (o e : Nat), tile o l e → l.length * 32 + o ≤ e := by
      intro l
      induction l with
      | nil => intro o e h; have : o = e := h; simp; omega
      | cons x r ih =>
        rintro o e ⟨a, b, c⟩
        have q := (isSz_iff _).1 b
        have := ih _ _ c
        rw [List.length_cons]; omega
    have := key l _ _ ht
    have := h.small
    omega
  have e0 : numO bs 0 = wordN bs 0 := by unfold numO word?; rw [if_pos (by omega)]; rfl
  unfold checkB
  rw [hw]
  dsimp only
  rw [e0, decide_eq_true h0, Bool.true_and, chkC_lists h hlen 22 0 _ rfl, sumF_all l (fun x hx => (hm.2 x hx).2.2.1)]
  have : ((cntFree l : Int) - (cntFree l : Int) == 0) = true := by rw [Int.sub_self]; rfl
  rw [this, Bool.and_true]

/-- The bits behind the classes stay. -/
theorem bit_up (w c : Nat) (hc : c < 22) (h : bitN w c = false) : (w + 2 ^ c) / 4194304 = w / 4194304 := by
  obtain ⟨d, hd⟩ : ∃ d, 22 = c + 1 + d := ⟨21 - c, by omega⟩
  have e : 4194304 = 2 ^ (c + 1) * 2 ^ d := by rw [← Nat.pow_add, ← hd]
  have hp : 0 < 2 ^ c := Nat.two_pow_pos c
  have h1 : w / 2 ^ c % 2 = 0 := by
    unfold bitN at h
    have : ¬ w / 2 ^ c % 2 = 1 := by simpa using h
    omega
  have key : (w + 2 ^ c) / 2 ^ (c + 1) = w / 2 ^ (c + 1) := by
    rw [Nat.pow_succ, ← Nat.div_div_eq_div_mul, ← Nat.div_div_eq_div_mul, Nat.add_div_right _ hp]
    omega
  rw [e, ← Nat.div_div_eq_div_mul, ← Nat.div_div_eq_div_mul, key]
theorem bit_down (w c : Nat) (hc : c < 22) (h : bitN w c = true) : (w - 2 ^ c) / 4194304 = w / 4194304 := by
  have h1 := bitN_ge w c h
  have h2 := bit_up (w - 2 ^ c) c hc (bitN_sub_c w c h)
  rw [Nat.sub_add_cancel h1] at h2
  exact h2.symm
theorem markB_high (bs : List UInt8) (c : Nat) (hc : c < 22) (hl : 184 ≤ bs.length) : wordN (markB bs c) 0 / 4194304 = wordN bs 0 / 4194304 := by
  have hw := wordN_lt bs 0
  unfold markB
  split
  · rename_i h
    rw [wordN_same _ _ _ (by omega) (Nat.lt_of_le_of_lt (Nat.sub_le _ _) hw)]
    exact bit_down _ c hc h.1
  · split
    · rename_i h
      rw [wordN_same _ _ _ (by omega) (bitN_lt _ c (by omega) hw h.1)]
      exact bit_up _ c hc h.1
    · rfl
theorem markB_length (bs : List UInt8) (c : Nat) (hl : 184 ≤ bs.length) : (markB bs c).length = bs.length := by
  unfold markB
  split
  · exact lyN_length _ _ _ (by omega)
  · split
    · exact lyN_length _ _ _ (by omega)
    · rfl
theorem putB_high {bs out : List UInt8} {o : Int} (hl : 184 ≤ bs.length) (h : putB bs o = some out) : out.length = bs.length ∧ wordN out 0 / 4194304 = wordN bs 0 / 4194304 := by
  unfold putB at h
  by_cases hf : freeI bs o < 0
  · rw [if_pos hf] at h; cases h
  · rw [if_neg hf] at h
    obtain ⟨x, hg, hc⟩ : ∃ x, getB bs o = some x ∧ freeI bs o = classI (x.size : Int) := by
      unfold freeI at hf ⊢
      cases hg : getB bs o with
      | none => rw [hg] at hf; simp at hf
      | some x =>
        rw [hg] at hf
        dsimp only at hf ⊢
        cases hu : x.used with
        | true => rw [hu] at hf; simp at hf
        | false => exact ⟨x, rfl, by simp⟩
    have hb := classI_bounds (x.size : Int)
    obtain ⟨c, hcc⟩ : ∃ c, (freeI bs o).toNat = c := ⟨_, rfl⟩
    have hc22 : c < 22 := by omega
    obtain ⟨g0, g1, _, g3, g4, _⟩ := getB_some hg
    have q := (isSz_iff _).1 g4
    rw [hcc] at h
    dsimp only at h
    obtain ⟨f, hfe⟩ : ∃ f, wordN bs (8 + 8 * c) = f := ⟨_, rfl⟩
    rw [hfe] at h
    by_cases hm : (f : Int) = o ∨ (f ≠ 0 ∧ memberB bs f (c : Int) = false)
    · rw [if_pos hm] at h; cases h
    · rw [if_neg hm] at h
      injection h with h
      have ho : o.toNat = x.off := by omega
      rw [ho] at h
      have l1 := lyN_length bs (x.off + 8) f (by omega)
      have l2 := lyN_length (lyN bs (x.off + 8) f) (x.off + 16) 0 (by omega)
      have w2 : wordN (lyN (lyN bs (x.off + 8) f) (x.off + 16) 0) 0 = wordN bs 0 := by
        rw [wordN_other _ _ _ _ (by omega) (by omega), wordN_other _ _ _ _ (by omega) (by omega)]
      obtain ⟨b2, hb2⟩ : ∃ b2, (if f ≠ 0 then lyN (lyN (lyN bs (x.off + 8) f) (x.off + 16) 0) (f + 16) x.off else lyN (lyN bs (x.off + 8) f) (x.off + 16) 0) = b2 := ⟨_, rfl⟩
      have hb : b2.length = bs.length ∧ wordN b2 0 = wordN bs 0 := by
        rw [← hb2]
        by_cases hf0 : f ≠ 0
        · have hmem : memberB bs f (c : Int) = true := by
            cases hmb : memberB bs f (c : Int) with
            | true => rfl
            | false => exact absurd (.inr ⟨hf0, hmb⟩) hm
          unfold memberB at hmem
          cases hgf : getB bs (f : Int) with
          | none => rw [hgf] at hmem; simp at hmem
          | some y =>
            obtain ⟨r0, r1, _, r3, r4, _⟩ := getB_some hgf
            have q2 := (isSz_iff _).1 r4
            rw [if_pos hf0]
            exact ⟨(lyN_length _ _ _ (by omega)).trans (l2.trans l1), by rw [wordN_other _ _ _ _ (by omega) (by omega), w2]⟩
        · rw [if_neg hf0]
          exact ⟨l2.trans l1, w2⟩
      rw [hb2] at h
      have l3 := lyN_length b2 (8 + 8 * c) x.off (by omega)
      rw [← h]
      refine ⟨(markB_length _ c (by omega)).trans (l3.trans hb.1), ?_⟩
      rw [markB_high _ c hc22 (by omega), wordN_other _ _ _ _ (by omega) (by omega), hb.2]
end Go.Proofs.YtbemaoncakcnjaaGreat

/- A number of the head turned: not right. Plain facts, no program in sight. -/
namespace Go.Proofs.YtbemaoncakcnjaaGreat

theorem chkC_true {bs : List UInt8} {l : List Bk} : ∀ (k c : Nat) (fr : Int), chkC bs l k c fr = true → ∀ d, c ≤ d → d < c + k → ∃ al, allB bs d = some al ∧ al.all (okO l al) = true
  | 0, c, fr, _, d, h1, h2 => by omega
  | k + 1, c, fr, h, d, h1, h2 => by
    unfold chkC at h
    cases ha : allB bs c with
    | none => rw [ha] at h; cases h
    | some al =>
      rw [ha] at h
      dsimp only at h
      rw [Bool.and_eq_true] at h
      rcases Nat.lt_or_ge c d with hlt | hge
      · exact chkC_true k (c + 1) _ h.2 d hlt (by omega)
      · obtain rfl : d = c := by omega
        exact ⟨al, ha, h.1⟩
theorem allB_bit {bs : List UInt8} {c : Nat} {l : List Nat} (h : allB bs c = some l) : bitN (wordN bs 0) c = decide (wordN bs (8 + 8 * c) ≠ 0) ∧ allF bs c 1024 0 (wordN bs (8 + 8 * c)) = some l := by
  unfold allB at h
  split at h
  · cases h
  · split at h
    · cases h
    · rename_i hb
      exact ⟨Decidable.not_not.1 hb, h⟩
end Go.Proofs.YtbemaoncakcnjaaGreat

/- A tag turned: not right. Plain facts, no program in sight. -/
namespace Go.Proofs.YtbemaoncakcnjaaGreat

end Go.Proofs.YtbemaoncakcnjaaGreat

/- The document's heap, plain: blocks, lists, what each block holds; what in, out, drop, put, give, cut, Find, Take, Give, Trim come to. No program in sight. -/
namespace Go.Proofs.YtbemaoncakcnjaaGreat

/-- What a block holds: its slice, and the bytes. -/
abbrev Dt : Type := Value × List UInt8
def nilD : Dt := (.slice none 0 0, [])
/-- A heap. -/
structure Hp where
  cap : Nat
  blks : List Bk
  ds : List Dt
  lists : Nat → List Nat

/-- Where the last block ends. -/
def sumB : List Bk → Nat
  | [] => 0
  | x :: r => x.size + sumB r
def lenB (l : List Bk) : Nat := 184 + sumB l
/-- The i-th block. -/
def bkAt (l : List Bk) (i : Nat) : Bk := l.getD i ⟨0, 0, false⟩
/-- Which block stands at o. -/
def atB (o : Int) : List Bk → Option Nat
  | [] => none
  | x :: r => if (x.off : Int) = o then some 0 else (atB o r).map (· + 1)
def usedB (l : List Bk) (o : Int) : Option Nat := match atB o l with
  | none => none
  | some i => if (bkAt l i).used = true then some i else none
def clsB (x : Bk) : Nat := (classI (x.size : Int)).toNat
def Hp.out (H : Hp) (i : Nat) : Hp := { H with lists := setL H.lists (clsB (bkAt H.blks i)) ((H.lists (clsB (bkAt H.blks i))).filter fun o => o != (bkAt H.blks i).off) }
def Hp.in_ (H : Hp) (i : Nat) : Hp := { H with lists := setL H.lists (clsB (bkAt H.blks i)) ((bkAt H.blks i).off :: H.lists (clsB (bkAt H.blks i))) }
def Hp.drop (H : Hp) (i : Nat) : Hp := { H with blks := H.blks.take i ++ H.blks.drop (i + 1), ds := H.ds.take i ++ H.ds.drop (i + 1) }
def Hp.put (H : Hp) (i : Nat) (x : Bk) : Hp := { H with blks := H.blks.take i ++ x :: H.blks.drop i, ds := H.ds.take i ++ nilD :: H.ds.drop i }
def Hp.size (H : Hp) (i s : Nat) : Hp := { H with blks := H.blks.set i { bkAt H.blks i with size := s } }
def Hp.use (H : Hp) (i : Nat) (u : Bool) : Hp := { H with blks := H.blks.set i { bkAt H.blks i with used := u } }
def Hp.wipe (H : Hp) (i : Nat) : Hp := { H with ds := H.ds.set i nilD }
/-- Is there a free block right behind the i-th? -/
def nextF (l : List Bk) (i : Nat) : Bool := decide (i + 1 < l.length) && !(bkAt l (i + 1)).used
def prevF (l : List Bk) (i : Nat) : Bool := decide (0 < i) && !(bkAt l (i - 1)).used
/-- The i-th and the one behind it are one. -/
def Hp.join (H : Hp) (i : Nat) : Hp := ((H.size i ((bkAt H.blks i).size + (bkAt H.blks (i + 1)).size)).drop (i + 1))
def Hp.giveB (H : Hp) (i : Nat) : Hp := if nextF H.blks i = true then (H.out (i + 1)).join i else H
def Hp.giveC (H : Hp) (i : Nat) : Hp := if prevF H.blks i = true then ((H.out (i - 1)).join (i - 1)).in_ (i - 1) else H.in_ i
def Hp.give (H : Hp) (i : Nat) : Hp := (((H.use i false).wipe i).giveB i).giveC i
def Hp.cut (H : Hp) (i s : Nat) : Hp := if (bkAt H.blks i).size < s + 32 then H.use i true else (((H.use i true).size i s).put (i + 1) ⟨(bkAt H.blks i).off + s, (bkAt H.blks i).size - s, true⟩).give (i + 1)
/-- The first of a list with so many bytes. -/
def findL (l : List Bk) (s : Nat) : List Nat → Option Nat
  | [] => none
  | o :: r => match atB (o : Int) l with
    | none => none
    | some i => if s ≤ (bkAt l i).size then some i else findL l s r
def Hp.findC (H : Hp) (s : Nat) : Nat → Nat → Option Nat
  | 0, _ => none
  | k + 1, c => match findL H.blks s (H.lists c) with
    | some i => some i
    | none => H.findC s k (c + 1)
def Hp.find (H : Hp) (s : Nat) : Option Nat := H.findC s (22 - (classI (s : Int)).toNat) (classI (s : Int)).toNat
/-- How many bytes the last block has, if it is free. -/
def tailF (l : List Bk) : Nat := if l.length = 0 then 0 else if (bkAt l (l.length - 1)).used = true then 0 else (bkAt l (l.length - 1)).size
/-- Where a block of a size is taken, if it can be; the heap then. -/
def Hp.take (H : Hp) (s : Nat) : Option Nat × Hp := match H.find s with
  | some i => (some (bkAt H.blks i).off, (H.out i).cut i s)
  | none => if H.cap < lenB H.blks + s - tailF H.blks then (none, H)
    else if 0 < tailF H.blks then (some (bkAt H.blks (H.blks.length - 1)).off, ((H.out (H.blks.length - 1)).size (H.blks.length - 1) s).use (H.blks.length - 1) true)
    else (some (lenB H.blks), H.put H.blks.length ⟨lenB H.blks, s, true⟩)
def Hp.giveO (H : Hp) (o : Int) : Option Hp := (usedB H.blks o).map H.give
def Hp.trimO (H : Hp) (o : Int) (s : Nat) : Option Hp := match usedB H.blks o with
  | none => none
  | some i => if (bkAt H.blks i).size < s then none else some (H.cut i s)

/-- All blocks one behind the other, all within 16384 bytes; as many slices as blocks; no list is long. -/
structure Hp.Ok (H : Hp) : Prop where
  tl : tile 184 H.blks (lenB H.blks)
  le : lenB H.blks ≤ 16384
  dl : H.ds.length = H.blks.length
/-- Whatever is listed is a block. -/
def Hp.Listed (H : Hp) : Prop := ∀ c, c < 22 → ∀ o ∈ H.lists c, ∃ i, atB (o : Int) H.blks = some i

theorem tile_sum : ∀ (l : List Bk) (o e : Nat), tile o l e → e = o + sumB l
  | [], o, e, h => by simp [tile] at h; simp [sumB]; omega
  | x :: r, o, e, h => by
    obtain ⟨h1, h2, h3⟩ := h
    have := tile_sum r _ e h3
    simp [sumB]; omega
theorem tile_app : ∀ (a b : List Bk) (o e : Nat), tile o (a ++ b) e ↔ tile o a (o + sumB a) ∧ tile (o + sumB a) b e
  | [], b, o, e => by simp [sumB, tile]
  | x :: r, b, o, e => by
    simp only [List.cons_append, tile, sumB]
    rw [tile_app r b]
    constructor
    · rintro ⟨h1, h2, h3, h4⟩
      refine ⟨⟨h1, h2, ?_⟩, ?_⟩
      · rw [show o + (x.size + sumB r) = o + x.size + sumB r by omega]; exact h3
      · rw [show o + (x.size + sumB r) = o + x.size + sumB r by omega]; exact h4
    · rintro ⟨⟨h1, h2, h3⟩, h4⟩
      rw [show o + (x.size + sumB r) = o + x.size + sumB r by omega] at h3 h4
      exact ⟨h1, h2, h3, h4⟩
theorem sumB_app (a b : List Bk) : sumB (a ++ b) = sumB a + sumB b := by
  induction a with
  | nil => simp [sumB]
  | cons x r ih => simp only [List.cons_append, sumB, ih]; omega
theorem atB_some {o : Int} : ∀ {l : List Bk} {i : Nat}, atB o l = some i → ∃ x, l[i]? = some x ∧ (x.off : Int) = o
  | [], _, h => by cases h
  | x :: r, i, h => by
    unfold atB at h
    split at h
    · rename_i hx
      injection h with h
      subst h
      exact ⟨x, rfl, hx⟩
    · cases hr : atB o r with
      | none => rw [hr] at h; cases h
      | some j =>
        rw [hr] at h
        injection h with h
        subst h
        obtain ⟨y, h1, h2⟩ := atB_some hr
        exact ⟨y, by simpa using h1, h2⟩
theorem atB_none {o : Int} : ∀ {l : List Bk}, atB o l = none → ∀ x ∈ l, (x.off : Int) ≠ o
  | [], _, x, hx => by cases hx
  | y :: r, h, x, hx => by
    unfold atB at h
    split at h
    · cases h
    · rename_i hy
      rcases List.mem_cons.1 hx with rfl | hx
      · exact hy
      · cases hr : atB o r with
        | none => exact atB_none hr x hx
        | some j => rw [hr] at h; cases h
theorem bkAt_of {l : List Bk} {i : Nat} {x : Bk} (h : l[i]? = some x) : bkAt l i = x := by
  unfold bkAt
  rw [List.getD_eq_getElem?_getD, h]
  rfl
theorem bkAt_get {l : List Bk} {i : Nat} (h : i < l.length) : l[i]? = some (bkAt l i) := by
  rw [List.getElem?_eq_getElem h]
  exact congrArg some (bkAt_of (List.getElem?_eq_getElem h)).symm
theorem atB_at {l : List Bk} {i : Nat} {o : Int} (h : atB o l = some i) : i < l.length ∧ ((bkAt l i).off : Int) = o := by
  obtain ⟨x, h1, h2⟩ := atB_some h
  have hi : i < l.length := by
    rcases Nat.lt_or_ge i l.length with h | h
    · exact h
    · rw [List.getElem?_eq_none h] at h1; cases h1
  rw [bkAt_of h1]
  exact ⟨hi, h2⟩
theorem lst_split {α : Type} {l : List α} {i : Nat} {x : α} (h : l[i]? = some x) : l = l.take i ++ x :: l.drop (i + 1) := by
  have hi : i < l.length := by
    rcases Nat.lt_or_ge i l.length with h' | h'
    · exact h'
    · rw [List.getElem?_eq_none h'] at h; cases h
  have e : l[i] = x := by rw [List.getElem?_eq_getElem hi] at h; injection h
  calc l = l.take i ++ l.drop i := (List.take_append_drop i l).symm
    _ = _ := by rw [List.drop_eq_getElem_cons hi, e]
theorem lst_set {α : Type} {l : List α} {i : Nat} {x : α} (y : α) (h : l[i]? = some x) : l.set i y = l.take i ++ y :: l.drop (i + 1) := by
  have hi : i < l.length := by
    rcases Nat.lt_or_ge i l.length with h' | h'
    · exact h'
    · rw [List.getElem?_eq_none h'] at h; cases h
  rw [List.set_eq_take_append_cons_drop, if_pos hi]

section
variable {l : List Bk} {e i : Nat} {x : Bk}
/-- What lies ahead of the i-th block, it itself, and what lies behind it. -/
theorem tile_at (h : tile 184 l e) (hx : l[i]? = some x) : tile 184 (l.take i) x.off ∧ x.off = 184 + sumB (l.take i) ∧ isSz (x.size : Int) = true ∧ tile (x.off + x.size) (l.drop (i + 1)) e := by
  rw [lst_split hx, tile_app] at h
  obtain ⟨h1, h2, h3, h4⟩ := h
  have e1 : (184 + sumB (l.take i)) = x.off := by omega
  rw [e1] at h1
  refine ⟨h1, by omega, h3, ?_⟩
  rw [e1] at h4
  exact h4
theorem tile_of (h1 : tile 184 (l.take i) x.off) (h3 : isSz (x.size : Int) = true) {r : List Bk} (h4 : tile (x.off + x.size) r e) : tile 184 (l.take i ++ x :: r) e := by
  have := tile_sum _ _ _ h1
  rw [tile_app]
  rw [← this]
  exact ⟨h1, rfl, h3, h4⟩
theorem tile_len (h : tile 184 l e) : lenB l = e := by
  have := tile_sum _ _ _ h
  unfold lenB; omega
end
end Go.Proofs.YtbemaoncakcnjaaGreat

/- The document's heap, plain: that all stays one behind the other when a block is given, cut, taken. No program in sight. -/
namespace Go.Proofs.YtbemaoncakcnjaaGreat

theorem lst_lt {α : Type} {l : List α} {i : Nat} {x : α} (h : l[i]? = some x) : i < l.length := by
  rcases Nat.lt_or_ge i l.length with h' | h'
  · exact h'
  · rw [List.getElem?_eq_none h'] at h; cases h
theorem set_take {α : Type} (l : List α) (i : Nat) (y : α) (hi : i < l.length) : (l.set i y).take (i + 1) = l.take i ++ [y] := by
  rw [List.take_set, List.take_add_one, List.getElem?_eq_getElem hi]
  rw [Option.toList_some, List.set_append_right _ _ (by rw [List.length_take]; omega), List.length_take]
  congr 1
  have e : i - min i l.length = 0 := by omega
  rw [e]
  rfl
theorem set_drop {α : Type} (l : List α) (i k : Nat) (y : α) (hk : i < k) : (l.set i y).drop k = l.drop k := List.drop_set_of_lt hk
theorem bkAt_set (l : List Bk) (i j : Nat) (y : Bk) (hi : i < l.length) : bkAt (l.set i y) j = if j = i then y else bkAt l j := by
  unfold bkAt
  rw [List.getD_eq_getElem?_getD, List.getD_eq_getElem?_getD]
  by_cases h : j = i
  · subst h
    rw [List.getElem?_set_self hi, if_pos rfl]
    rfl
  · rw [List.getElem?_set_ne (fun e => h e.symm), if_neg h]
theorem sz_add {a b : Nat} (ha : isSz (a : Int) = true) (hb : isSz (b : Int) = true) (h : a + b ≤ 16384) : isSz ((a + b : Nat) : Int) = true := by
  have h1 := (isSz_iff _).1 ha
  have h2 := (isSz_iff _).1 hb
  exact (isSz_iff _).2 (by omega)

section
variable {H : Hp} {i s : Nat}
theorem Hp.Ok.at_ (h : H.Ok) (hi : i < H.blks.length) : tile 184 (H.blks.take i) (bkAt H.blks i).off ∧ isSz ((bkAt H.blks i).size : Int) = true ∧ tile ((bkAt H.blks i).off + (bkAt H.blks i).size) (H.blks.drop (i + 1)) (lenB H.blks) := by
  obtain ⟨a, _, b, c⟩ := tile_at h.tl (bkAt_get hi)
  exact ⟨a, b, c⟩
theorem Hp.Ok.sz (h : H.Ok) (hi : i < H.blks.length) : isSz ((bkAt H.blks i).size : Int) = true := (h.at_ hi).2.1
theorem Hp.Ok.len (h : H.Ok) : H.blks.length * 32 ≤ lenB H.blks := by
  have go : ∀ (l : List Bk) (o e : Nat), tile o l e → l.length * 32 ≤ sumB l := by
    intro l
    induction l with
    | nil => intro o e _; simp [sumB]
    | cons x r ih =>
      intro o e ht
      obtain ⟨_, h2, h3⟩ := ht
      have h4 := ih _ _ h3
      have h5 := (isSz_iff _).1 h2
      simp only [List.length_cons, sumB]
      omega
  have := go H.blks 184 _ h.tl
  unfold lenB
  omega
theorem Hp.Ok.n (h : H.Ok) : H.blks.length ≤ 512 := by
  have h1 := h.len
  have h2 := h.le
  omega
/-- The ends of the i-th, and of the one behind it. -/
theorem Hp.Ok.two (h : H.Ok) (hi : i + 1 < H.blks.length) : (bkAt H.blks (i + 1)).off = (bkAt H.blks i).off + (bkAt H.blks i).size ∧ (bkAt H.blks i).size + (bkAt H.blks (i + 1)).size ≤ 16384 := by
  obtain ⟨_, hs, ht⟩ := h.at_ (i := i) (by omega)
  rw [List.drop_eq_getElem_cons hi] at ht
  have e : H.blks[i + 1] = bkAt H.blks (i + 1) := by
    have := bkAt_get hi
    rw [List.getElem?_eq_getElem hi] at this
    exact Option.some.inj this
  rw [e] at ht
  obtain ⟨h1, _, h3⟩ := ht
  have h4 := (tile_mem _ _ _ h3).1
  have h5 := h.le
  exact ⟨h1, by omega⟩
/-- A block with the same place and size. -/
theorem Hp.Ok.same (h : H.Ok) (hi : i < H.blks.length) (y : Bk) (ho : y.off = (bkAt H.blks i).off) (hs : y.size = (bkAt H.blks i).size) : tile 184 (H.blks.set i y) (lenB H.blks) ∧ lenB (H.blks.set i y) = lenB H.blks := by
  obtain ⟨a, b, c⟩ := h.at_ hi
  have ht : tile 184 (H.blks.set i y) (lenB H.blks) := by
    rw [lst_set y (bkAt_get hi)]
    refine tile_of (by rw [ho]; exact a) (by rw [hs]; exact b) ?_
    rw [ho, hs]; exact c
  exact ⟨ht, tile_len ht⟩
theorem Hp.Ok.use (h : H.Ok) (hi : i < H.blks.length) (u : Bool) : (H.use i u).Ok := by
  obtain ⟨h1, h2⟩ := h.same hi { bkAt H.blks i with used := u } rfl rfl
  refine ⟨?_, ?_, ?_⟩
  · show tile 184 (H.blks.set i _) (lenB (H.blks.set i _))
    rw [h2]; exact h1
  · show lenB (H.blks.set i _) ≤ _
    rw [h2]; exact h.le
  · show H.ds.length = (H.blks.set i _).length
    rw [List.length_set]; exact h.dl
theorem Hp.Ok.wipe (h : H.Ok) : (H.wipe i).Ok := ⟨h.tl, h.le, by show (H.ds.set i _).length = _; rw [List.length_set]; exact h.dl⟩
theorem Hp.Ok.out (h : H.Ok) : (H.out i).Ok := ⟨h.tl, h.le, h.dl⟩
theorem join_blks (H : Hp) (hi : i + 1 < H.blks.length) : (H.join i).blks = H.blks.take i ++ { bkAt H.blks i with size := (bkAt H.blks i).size + (bkAt H.blks (i + 1)).size } :: H.blks.drop (i + 2) := by
  show (H.blks.set i _).take (i + 1) ++ (H.blks.set i _).drop (i + 1 + 1) = _
  rw [set_take _ _ _ (by omega), set_drop _ _ _ _ (by omega), List.append_assoc]
  rfl
theorem Hp.Ok.join (h : H.Ok) (hi : i + 1 < H.blks.length) : (H.join i).Ok := by
  obtain ⟨a, b, c⟩ := h.at_ (i := i) (by omega)
  obtain ⟨_, b2, c2⟩ := h.at_ (i := i + 1) hi
  obtain ⟨e, hle⟩ := h.two hi
  have ht : tile 184 (H.join i).blks (lenB H.blks) := by
    rw [join_blks H hi]
    refine tile_of (x := { bkAt H.blks i with size := (bkAt H.blks i).size + (bkAt H.blks (i + 1)).size }) a (sz_add b b2 hle) ?_
    show tile ((bkAt H.blks i).off + ((bkAt H.blks i).size + (bkAt H.blks (i + 1)).size)) _ _
    rw [← Nat.add_assoc, ← e]
    exact c2
  have hl := tile_len ht
  refine ⟨by rw [hl]; exact ht, by rw [hl]; exact h.le, ?_⟩
  show (H.ds.take (i + 1) ++ H.ds.drop (i + 1 + 1)).length = (H.join i).blks.length
  rw [join_blks H hi]
  have := h.dl
  simp only [List.length_append, List.length_take, List.length_drop, List.length_cons]
  omega
theorem join_at (H : Hp) (hi : i + 1 < H.blks.length) : i < (H.join i).blks.length ∧ bkAt (H.join i).blks i = { bkAt H.blks i with size := (bkAt H.blks i).size + (bkAt H.blks (i + 1)).size } ∧ (H.join i).blks.length + 1 = H.blks.length := by
  rw [join_blks H hi]
  refine ⟨?_, bkAt_of ?_, ?_⟩
  · simp only [List.length_append, List.length_take, List.length_cons]; omega
  · rw [List.getElem?_append_right (by rw [List.length_take]; omega), List.length_take, show i - min i H.blks.length = 0 by omega]
    rfl
  · simp only [List.length_append, List.length_take, List.length_cons, List.length_drop]; omega
theorem cut_blks (H : Hp) (hi : i < H.blks.length) (y : Bk) : (((H.use i true).size i s).put (i + 1) y).blks = H.blks.take i ++ { bkAt H.blks i with used := true, size := s } :: y :: H.blks.drop (i + 1) := by
  have e : bkAt (H.blks.set i { bkAt H.blks i with used := true }) i = { bkAt H.blks i with used := true } := by rw [bkAt_set _ _ _ _ hi, if_pos rfl]
  show ((H.blks.set i { bkAt H.blks i with used := true }).set i { bkAt (H.blks.set i { bkAt H.blks i with used := true }) i with size := s }).take (i + 1) ++ y :: ((H.blks.set i { bkAt H.blks i with used := true }).set i { bkAt (H.blks.set i { bkAt H.blks i with used := true }) i with size := s }).drop (i + 1) = _
  rw [e, List.set_set, set_take _ _ _ hi, set_drop _ _ _ _ (by omega), List.append_assoc]
  rfl
theorem Hp.Ok.cut (h : H.Ok) (hi : i < H.blks.length) (hs : isSz (s : Int) = true) (hle : s + 32 ≤ (bkAt H.blks i).size) : (((H.use i true).size i s).put (i + 1) ⟨(bkAt H.blks i).off + s, (bkAt H.blks i).size - s, true⟩).Ok := by
  obtain ⟨a, b, c⟩ := h.at_ hi
  have h1 := (isSz_iff _).1 hs
  have h2 := (isSz_iff _).1 b
  have ht : tile 184 (((H.use i true).size i s).put (i + 1) ⟨(bkAt H.blks i).off + s, (bkAt H.blks i).size - s, true⟩).blks (lenB H.blks) := by
    rw [cut_blks H hi]
    refine tile_of (x := { bkAt H.blks i with used := true, size := s }) a hs ⟨rfl, (isSz_iff _).2 (by dsimp only; omega), ?_⟩
    dsimp only
    rw [show (bkAt H.blks i).off + s + ((bkAt H.blks i).size - s) = (bkAt H.blks i).off + (bkAt H.blks i).size by omega]
    exact c
  have hl := tile_len ht
  refine ⟨by rw [hl]; exact ht, by rw [hl]; exact h.le, ?_⟩
  rw [cut_blks H hi]
  show (H.ds.take (i + 1) ++ nilD :: H.ds.drop (i + 1)).length = _
  have := h.dl
  simp only [List.length_append, List.length_take, List.length_drop, List.length_cons]
  omega
theorem cut_len (H : Hp) (hi : i < H.blks.length) (y : Bk) : (((H.use i true).size i s).put (i + 1) y).blks.length = H.blks.length + 1 := by
  rw [cut_blks H hi]
  simp only [List.length_append, List.length_take, List.length_drop, List.length_cons]
  omega

/-- No list has more than N. -/
def Hp.Few (H : Hp) (N : Nat) : Prop := ∀ d, d < 22 → (H.lists d).length ≤ N
theorem Hp.Few.out {N : Nat} (h : H.Few N) : (H.out i).Few N := fun d hd => by
  show (setL H.lists _ _ d).length ≤ N
  unfold setL
  split
  · rename_i e
    rw [← e]
    exact Nat.le_trans (List.length_filter_le _ _) (h d hd)
  · exact h d hd
end
end Go.Proofs.YtbemaoncakcnjaaGreat

/- The document's heap, plain: that there are as many slices as blocks; an arena's bytes that are such a heap. No program in sight. -/
namespace Go.Proofs.YtbemaoncakcnjaaGreat

/-- As many slices as blocks. -/
def Hp.Dl (H : Hp) : Prop := H.ds.length = H.blks.length
section
variable {H : Hp} {i s : Nat}
theorem Hp.Dl.use (h : H.Dl) (u : Bool) : (H.use i u).Dl := by show H.ds.length = (H.blks.set i _).length; rw [List.length_set]; exact h
theorem Hp.Dl.size (h : H.Dl) : (H.size i s).Dl := by show H.ds.length = (H.blks.set i _).length; rw [List.length_set]; exact h
theorem Hp.Dl.wipe (h : H.Dl) : (H.wipe i).Dl := by show (H.ds.set i _).length = H.blks.length; rw [List.length_set]; exact h
theorem Hp.Dl.out (h : H.Dl) : (H.out i).Dl := h
theorem Hp.Dl.in_ (h : H.Dl) : (H.in_ i).Dl := h
theorem Hp.Dl.drop (h : H.Dl) : (H.drop i).Dl := by
  show (H.ds.take i ++ H.ds.drop (i + 1)).length = (H.blks.take i ++ H.blks.drop (i + 1)).length
  have h : H.ds.length = H.blks.length := h
  simp only [List.length_append, List.length_take, List.length_drop, h]
theorem Hp.Dl.put (h : H.Dl) (x : Bk) : (H.put i x).Dl := by
  show (H.ds.take i ++ nilD :: H.ds.drop i).length = (H.blks.take i ++ x :: H.blks.drop i).length
  have h : H.ds.length = H.blks.length := h
  simp only [List.length_append, List.length_take, List.length_drop, List.length_cons, h]
theorem Hp.Dl.join (h : H.Dl) : (H.join i).Dl := Hp.Dl.drop (Hp.Dl.size h)
theorem Hp.Dl.giveB (h : H.Dl) : (H.giveB i).Dl := by
  unfold Hp.giveB
  split
  · exact Hp.Dl.join (Hp.Dl.out h)
  · exact h
theorem Hp.Dl.giveC (h : H.Dl) : (H.giveC i).Dl := by
  unfold Hp.giveC
  split
  · exact Hp.Dl.in_ (Hp.Dl.join (Hp.Dl.out h))
  · exact Hp.Dl.in_ h
theorem Hp.Dl.give (h : H.Dl) : (H.give i).Dl := (h.use false).wipe.giveB.giveC
theorem Hp.Dl.cut (h : H.Dl) : (H.cut i s).Dl := by
  unfold Hp.cut
  split
  · exact h.use true
  · exact ((h.use true).size.put _).give
theorem Hp.Dl.take (h : H.Dl) : (H.take s).2.Dl := by
  unfold Hp.take
  split
  · exact Hp.Dl.cut (Hp.Dl.out h)
  · split
    · exact h
    · split
      · exact Hp.Dl.use (Hp.Dl.size (Hp.Dl.out h)) true
      · exact h.put _
theorem Hp.Dl.giveO {o : Int} {H' : Hp} (h : H.Dl) (hg : H.giveO o = some H') : H'.Dl := by
  unfold Hp.giveO at hg
  cases hu : usedB H.blks o with
  | none => rw [hu] at hg; cases hg
  | some i => rw [hu] at hg; injection hg with hg; subst hg; exact h.give
theorem Hp.Dl.trimO {o : Int} {H' : Hp} (h : H.Dl) (hg : H.trimO o s = some H') : H'.Dl := by
  unfold Hp.trimO at hg
  cases hu : usedB H.blks o with
  | none => rw [hu] at hg; cases hg
  | some i =>
    rw [hu] at hg
    dsimp only at hg
    split at hg
    · cases hg
    · injection hg with hg; subst hg; exact h.cut

theorem giveB_cap : (H.giveB i).cap = H.cap := by unfold Hp.giveB; split <;> rfl
theorem giveC_cap : (H.giveC i).cap = H.cap := by unfold Hp.giveC; split <;> rfl
theorem give_cap : (H.give i).cap = H.cap := by unfold Hp.give; rw [giveC_cap, giveB_cap]; rfl
theorem cut_cap : (H.cut i s).cap = H.cap := by
  unfold Hp.cut
  split
  · rfl
  · rw [give_cap]; rfl
theorem take_cap : (H.take s).2.cap = H.cap := by
  unfold Hp.take
  split
  · exact cut_cap
  · split
    · rfl
    · split <;> rfl
theorem giveO_cap {o : Int} {H' : Hp} (hg : H.giveO o = some H') : H'.cap = H.cap := by
  unfold Hp.giveO at hg
  cases hu : usedB H.blks o with
  | none => rw [hu] at hg; cases hg
  | some i => rw [hu] at hg; injection hg with hg; subst hg; exact give_cap
theorem trimO_cap {o : Int} {H' : Hp} (hg : H.trimO o s = some H') : H'.cap = H.cap := by
  unfold Hp.trimO at hg
  cases hu : usedB H.blks o with
  | none => rw [hu] at hg; cases hg
  | some i =>
    rw [hu] at hg
    dsimp only at hg
    split at hg
    · cases hg
    · injection hg with hg; subst hg; exact cut_cap
end

/-- Bytes that are a heap: its blocks, its lists; they are right. -/
structure Rt (bs : List UInt8) (H : Hp) : Prop where
  walk : walkB bs = some H.blks
  all_ : ∀ c, c < 22 → allB bs c = some (H.lists c)
  chk : checkB bs = true
  len : bs.length ≤ H.cap
section
variable {bs : List UInt8} {H : Hp}
theorem Rt.lenE (h : Rt bs H) : lenB H.blks = bs.length := tile_len (walkB_tiles h.walk).2.1
theorem Rt.ok (h : Rt bs H) (hc : H.cap ≤ 16384) (hd : H.Dl) : H.Ok := ⟨by rw [h.lenE]; exact (walkB_tiles h.walk).2.1, by rw [h.lenE]; exact Nat.le_trans h.len hc, hd⟩
theorem Rt.few (h : Rt bs H) : H.Few 1024 := fun d hd => allB_len (h.all_ d hd)
theorem atB_mem {l : List Bk} {x : Bk} (hx : x ∈ l) : ∃ i, atB (x.off : Int) l = some i := by
  cases h : atB (x.off : Int) l with
  | some i => exact ⟨i, rfl⟩
  | none => exact absurd rfl (atB_none h x hx)
theorem Rt.listed (h : Rt bs H) : H.Listed := fun c hc o ho => by
  have hk := h.chk
  unfold checkB at hk
  rw [h.walk] at hk
  simp only [Bool.and_eq_true] at hk
  obtain ⟨al, h1, h2⟩ := chkC_true 22 0 _ hk.2.2 c (Nat.zero_le _) (by omega)
  rw [h.all_ c hc] at h1
  injection h1 with h1
  subst h1
  have h3 := List.all_eq_true.1 h2 o ho
  unfold okO at h3
  rw [Bool.and_eq_true] at h3
  have h4 := h3.1
  unfold foundB at h4
  obtain ⟨x, hx, hx2⟩ := List.any_eq_true.1 h4
  simp only [Bool.and_eq_true, beq_iff_eq] at hx2
  rw [← hx2.1]
  exact atB_mem hx
end
/-- What is used in both heaps holds what it held, as far as both go. -/
def Held (H : Hp) (bs : List UInt8) (H' : Hp) (out : List UInt8) : Prop :=
  ∀ x ∈ H.blks, x.used = true → ∀ y ∈ H'.blks, y.used = true → y.off = x.off → ∀ i, x.off + 8 ≤ i → i + 8 < x.off + x.size → i + 8 < y.off + y.size → out[i]? = bs[i]?
end Go.Proofs.YtbemaoncakcnjaaGreat

/- The contracts of the document's own blocks: Word, Could, Get. -/
namespace Go.Proofs.YtbemaoncakcnjaaGreat
open Go.RowKit

/-- A block's value; what Get tells. -/
def Bk.val (x : Bk) : Value := .agg #[.int .i64 (x.off : Int), .int .i64 (x.size : Int), .bool x.used]
def bkV (o : Option Bk) : Value := match o with
  | some x => x.val
  | none => .agg #[.int .i64 0, .int .i64 0, .bool false]
def wordV (o : Option Nat) : Value := match o with
  | some v => .tuple #[.int .u64 (v : Int), .bool true]
  | none => .tuple #[.int .u64 0, .bool false]

theorem blk_set {w : World} {g : Nat} {t : TypeId} {a b c : Value} (h : w.heap[g]? = some (.cells #[a, b, c] t (0, 0))) (x y z : Value) :
    (((w.setCell ⟨g, 0, none⟩ x).setCell ⟨g, 1, none⟩ y).setCell ⟨g, 2, none⟩ z).heap[g]? = some (.cells #[x, y, z] t (0, 0)) := by
  have h1 := heap_setCell_same w g 0 _ _ x h
  have h2 := heap_setCell_same (w.setCell ⟨g, 0, none⟩ x) g 1 _ _ y h1
  have h3 := heap_setCell_same ((w.setCell ⟨g, 0, none⟩ x).setCell ⟨g, 1, none⟩ y) g 2 _ _ z h2
  rw [h3]
  rfl
theorem blk_cells {w : World} {g : Nat} {t : TypeId} {a b c : Value} (h : w.heap[g]? = some (.cells #[a, b, c] t (0, 0))) : (w.cell? ⟨g, 0, none⟩ = some a ∧ w.cell? ⟨g, 1, none⟩ = some b ∧ w.cell? ⟨g, 2, none⟩ = some c) ∧ (w.frozen? ⟨g, 0, none⟩ = false ∧ w.frozen? ⟨g, 1, none⟩ = false ∧ w.frozen? ⟨g, 2, none⟩ = false) := by
  refine ⟨⟨?_, ?_, ?_⟩, frozen_of_row w g 0 _ _ h, frozen_of_row w g 1 _ _ h, frozen_of_row w g 2 _ _ h⟩
  · rw [cell_of_row w g 0 _ _ (0, 0) h]; rfl
  · rw [cell_of_row w g 1 _ _ (0, 0) h]; rfl
  · rw [cell_of_row w g 2 _ _ (0, 0) h]; rfl
theorem blk_ret {fn : Func} {R : Ending → World → Prop} {a : Act} {w : World} {p u : Tmp} {g : Nat} {o s : Int} {b : Bool} {x : Value} (hres : fn.results = #[.cell p 51, .tmp u]) (hp : a.tmps.getD p undef = .pointer (some ⟨g, 0, none⟩)) (hx : a.tmps.getD u undef = x) (hd : a.defers = [])
    (hg : w.heap[g]? = some (.cells #[.int .i64 o, .int .i64 s, .bool b] 51 (0, 0))) (hR : R (.returned (.tuple #[.agg #[.int .i64 o, .int .i64 s, .bool b], x])) w) : bodyPost Tryz.prog fn R .ret a w := by
  have c0 := cell_of_row w g 0 _ _ (0, 0) hg
  have c1 := cell_of_row w g 1 _ _ (0, 0) hg
  have c2 := cell_of_row w g 2 _ _ (0, 0) hg
  simp only [List.getElem?_toArray, List.getElem?_cons_zero, List.getElem?_cons_succ] at c0 c1 c2
  refine bodyPost_ret (v := .tuple #[.agg #[.int .i64 o, .int .i64 s, .bool b], x]) ?_ hd hR
  rw [results_cell_tmp hres, hp, hx]
  simp [go_sem, c0, c1, c2]

theorem Rd.alloc' {w : World} {B n : Nat} {A : Option Addr} {bs : List UInt8} (h : Rd w B A n bs) (o : Obj) : Rd (w.alloc o) B A n bs := by
  refine ⟨h.1, fun hn => ?_⟩
  obtain ⟨b, off, e, hb, hc⟩ := h.2 hn
  refine ⟨b, off, e, hb, fun j u hu => ?_⟩
  have h1 := hc j u hu
  rw [← h1]
  exact (World.cell?_of_block (a := ⟨b, off + j, none⟩) (((Below.refl _ _).alloc (Nat.le_refl _) o).block b (cell_lt' h1)))
where cell_lt' {w : World} {a : Addr} {v : Value} (h : w.cell? a = some v) : a.block < w.heap.size := by
        unfold World.cell? at h
        rcases Nat.lt_or_ge a.block w.heap.size with h1 | h1
        · exact h1
        · rw [Array.getElem?_eq_none h1] at h; simp at h

section
variable (w : World)
set_option maxHeartbeats 400000 in
theorem rword_any (A : Option Addr) (c B : Nat) (bs : List UInt8) (h : Rd w B A bs.length bs) (hlc : bs.length ≤ c) (hl : bs.length ≤ 1000000) (o : Int) (ho : o ≤ 9223372036854775807) :
    Calls Tryz.prog 60 #[.slice A bs.length c, .int .i64 o] w fun e w' => e = .returned (wordV (word? bs o)) ∧ w = w' := by
  by_cases h0 : o < 0
  · have e : word? bs o = none := by unfold word?; rw [if_neg (by omega)]
    rw [e]
    clear e
    go_enter Tryz.func60, Tryz.ntmps60
    go_wp2
    go_ret2
    exact ⟨rfl, rfl⟩
  · obtain ⟨p, rfl⟩ : ∃ p : Nat, o = (p : Int) := ⟨o.toNat, by omega⟩
    by_cases h1 : bs.length < p
    · have e : word? bs (p : Int) = none := by unfold word?; rw [if_neg (by omega)]
      rw [e]
      clear e
      go_enter Tryz.func60, Tryz.ntmps60
      go_wp2
      go_ret2
      exact ⟨rfl, rfl⟩
    · by_cases h2 : p + 8 ≤ bs.length
      · have e : word? bs (p : Int) = some (wordN bs p) := by unfold word?; rw [if_pos (by omega)]; rfl
        rw [e]
        have HG := Lib.hid (rget_yes A bs.length c B bs p 8 w h hlc hl (by omega) (by omega) h2)
        clear e h
        go_enter Tryz.func60, Tryz.ntmps60
        go_wp2_with fail
        refine HG.out.mono ?_
        rintro e w' ⟨rfl, rfl⟩
        go_wp2
        go_ret2
        exact ⟨rfl, rfl⟩
      · have e : word? bs (p : Int) = none := by unfold word?; rw [if_neg (by omega)]
        rw [e]
        have HG := Lib.hid (rget_no A bs.length c p 8 w hl (by omega) (by omega))
        clear e h
        go_enter Tryz.func60, Tryz.ntmps60
        go_wp2_with fail
        refine HG.out.mono ?_
        rintro e w' ⟨rfl, rfl⟩
        go_wp2
        go_ret2
        exact ⟨rfl, rfl⟩

set_option maxHeartbeats 400000 in
theorem rcould_any (A : Option Addr) (n c : Nat) (hl : n ≤ 1000000) (o s : Int) (ho : -9223372036854775808 ≤ o ∧ o ≤ 9223372036854775807) (b : Bool) (hb : could n o s = b) :
    Calls Tryz.prog 93 #[.slice A n c, .int .i64 o, .int .i64 s] w fun e w' => e = .returned (.bool b) ∧ w = w' := by
  by_cases h1 : 184 ≤ o
  · by_cases h2 : o % 16 = 8
    · have s2 : (o % 16 == 8) = true := by rw [beq_iff_eq]; exact h2
      by_cases h3 : o ≤ (n : Int)
      · have e : decide (s ≤ (n : Int) - o) = b := by rw [← hb]; simp [could, h1, h2, h3]
        have HE := Lib.hid e
        clear hb e h2
        go_enter Tryz.func93, Tryz.ntmps93
        go_wp2
        go_ret
        exact ⟨rt_b HE.out, rfl⟩
      · obtain rfl : false = b := by rw [← hb]; simp [could, h3]
        clear hb h2
        go_enter Tryz.func93, Tryz.ntmps93
        go_wp2
        go_ret
        exact ⟨rfl, rfl⟩
    · have s2 : (o % 16 == 8) = false := by rw [beq_eq_false_iff_ne]; exact h2
      obtain rfl : false = b := by rw [← hb]; simp [could, h2]
      clear hb h2
      go_enter Tryz.func93, Tryz.ntmps93
      go_wp2
      go_ret
      exact ⟨rfl, rfl⟩
  · obtain rfl : false = b := by rw [← hb]; simp [could, h1]
    clear hb
    go_enter Tryz.func93, Tryz.ntmps93
    go_wp2
    go_ret
    exact ⟨rfl, rfl⟩
end
end Go.Proofs.YtbemaoncakcnjaaGreat

/- The contracts of the document's own blocks: Get, all ways. -/
namespace Go.Proofs.YtbemaoncakcnjaaGreat
open Go.RowKit

section
variable (w : World)

set_option maxHeartbeats 1000000 in
theorem rgetB_1 (A : Option Addr) (c : Nat) (bs : List UInt8) (hl : bs.length ≤ 1000000) (o : Int) (ho : -9223372036854775808 ≤ o ∧ o ≤ 9223372036854775807) (hc : could bs.length o 8 = false) :
    Calls Tryz.prog 59 #[.slice A bs.length c, .int .i64 o] w fun e w' => e = .returned (.tuple #[bkV none, .bool false]) ∧ Below w.heap.size w w' := by
  obtain ⟨w1, hw1⟩ : ∃ w1, w.alloc (.cells #[.int .i64 0, .int .i64 0, .bool false] 51) = w1 := ⟨_, rfl⟩
  have hb1 : Below w.heap.size w w1 := by rw [← hw1]; exact (Below.refl _ _).alloc (Nat.le_refl _) _
  have hn1 : w1.heap[w.heap.size]? = some (.cells #[.int .i64 0, .int .i64 0, .bool false] 51 (0, 0)) := by rw [← hw1]; exact heap_alloc_new w _
  have HC := Lib.hid (rcould_any w1 A bs.length c hl o 8 ho false hc)
  have HW1 := Lib.hid hw1
  have HB1 := Lib.hid hb1
  have HN1 := Lib.hid hn1
  clear hc hw1 hb1 hn1
  go_enter Tryz.func59, Tryz.ntmps59
  go_wp2_with fail
  rw [HW1.out]
  with_reducible refine HC.out.mono ?_
  rintro e w2 ⟨rfl, rfl⟩
  obtain ⟨⟨c0, c1, c2⟩, f0, f1, f2⟩ := blk_cells HN1.out
  go_wp2
  (try simp only [Exit.inBlock, Exit.then])
  refine blk_ret (x := .bool false) Tryz.results59 ?_ ?_ ?_ (blk_set HN1.out _ _ _) ?_
  · rfl
  · rfl
  · rfl
  · exact ⟨rfl, ((HB1.out.setCell (Nat.le_refl _) _).setCell (Nat.le_refl _) _).setCell (Nat.le_refl _) _⟩

set_option maxHeartbeats 1000000 in
theorem rgetB_2 (A : Option Addr) (c B : Nat) (bs : List UInt8) (hr : Rd w B A bs.length bs) (hlc : bs.length ≤ c) (hl : bs.length ≤ 1000000) (o : Nat) (v : Nat) (hc : could bs.length o 8 = true) (hv : wordN bs o = v) (hu : unpN v = none) :
    Calls Tryz.prog 59 #[.slice A bs.length c, .int .i64 (o : Int)] w fun e w' => e = .returned (.tuple #[bkV none, .bool false]) ∧ Below w.heap.size w w' := by
  have hb := (could_iff _ _ _).1 hc
  obtain ⟨w1, hw1⟩ : ∃ w1, w.alloc (.cells #[.int .i64 0, .int .i64 0, .bool false] 51) = w1 := ⟨_, rfl⟩
  have hb1 : Below w.heap.size w w1 := by rw [← hw1]; exact (Below.refl _ _).alloc (Nat.le_refl _) _
  have hn1 : w1.heap[w.heap.size]? = some (.cells #[.int .i64 0, .int .i64 0, .bool false] 51 (0, 0)) := by rw [← hw1]; exact heap_alloc_new w _
  have HC := Lib.hid (rcould_any w1 A bs.length c hl (o : Int) 8 (by omega) true hc)
  have hr1 : Rd w1 B A bs.length bs := by rw [← hw1]; exact hr.alloc' _
  have hw := rword_any w1 A c B bs hr1 hlc hl (o : Int) (by omega)
  have e : word? bs (o : Int) = some v := by unfold word?; rw [if_pos (by omega), Int.toNat_natCast, hv]
  rw [e] at hw
  have hup := runpack_any w1 v (by rw [← hv]; exact wordN_lt _ _)
  rw [hu] at hup
  dsimp only [wordV] at hw
  dsimp only [unpV] at hup
  have HW := Lib.hid hw
  have HU := Lib.hid hup
  have HW1 := Lib.hid hw1
  have HB1 := Lib.hid hb1
  have HN1 := Lib.hid hn1
  clear hc hv hu hr hr1 hw e hup hw1 hb1 hn1
  go_enter Tryz.func59, Tryz.ntmps59
  go_wp2_with fail
  rw [HW1.out]
  with_reducible refine HC.out.mono ?_
  rintro e w2 ⟨rfl, rfl⟩
  go_wp2_with fail
  with_reducible refine HW.out.mono ?_
  rintro e w2 ⟨rfl, rfl⟩
  go_wp2_with fail
  with_reducible refine HU.out.mono ?_
  rintro e w2 ⟨rfl, rfl⟩
  obtain ⟨⟨c0, c1, c2⟩, f0, f1, f2⟩ := blk_cells HN1.out
  go_wp2
  (try simp only [Exit.inBlock, Exit.then])
  refine blk_ret (x := .bool false) Tryz.results59 ?_ ?_ ?_ (blk_set HN1.out _ _ _) ?_
  · rfl
  · rfl
  · rfl
  · exact ⟨rfl, ((HB1.out.setCell (Nat.le_refl _) _).setCell (Nat.le_refl _) _).setCell (Nat.le_refl _) _⟩

set_option maxHeartbeats 1000000 in
theorem rgetB_3 (A : Option Addr) (c B : Nat) (bs : List UInt8) (hr : Rd w B A bs.length bs) (hlc : bs.length ≤ c) (hl : bs.length ≤ 1000000) (o : Nat) (v : Nat) (s : Nat) (u : Bool) (hc : could bs.length o 8 = true) (hv : wordN bs o = v) (hu : unpN v = some (s, u)) (hc2 : could bs.length o s = false) :
    Calls Tryz.prog 59 #[.slice A bs.length c, .int .i64 (o : Int)] w fun e w' => e = .returned (.tuple #[bkV none, .bool false]) ∧ Below w.heap.size w w' := by
  have hb := (could_iff _ _ _).1 hc
  have hss := (isSz_iff _).1 (unpN_some hu).1
  obtain ⟨w1, hw1⟩ : ∃ w1, w.alloc (.cells #[.int .i64 0, .int .i64 0, .bool false] 51) = w1 := ⟨_, rfl⟩
  have hb1 : Below w.heap.size w w1 := by rw [← hw1]; exact (Below.refl _ _).alloc (Nat.le_refl _) _
  have hn1 : w1.heap[w.heap.size]? = some (.cells #[.int .i64 0, .int .i64 0, .bool false] 51 (0, 0)) := by rw [← hw1]; exact heap_alloc_new w _
  have HC := Lib.hid (rcould_any w1 A bs.length c hl (o : Int) 8 (by omega) true hc)
  have hr1 : Rd w1 B A bs.length bs := by rw [← hw1]; exact hr.alloc' _
  have hw := rword_any w1 A c B bs hr1 hlc hl (o : Int) (by omega)
  have e : word? bs (o : Int) = some v := by unfold word?; rw [if_pos (by omega), Int.toNat_natCast, hv]
  rw [e] at hw
  have hup := runpack_any w1 v (by rw [← hv]; exact wordN_lt _ _)
  rw [hu] at hup
  dsimp only [wordV] at hw
  dsimp only [unpV] at hup
  have HW := Lib.hid hw
  have HU := Lib.hid hup
  have HC2 := Lib.hid (rcould_any w1 A bs.length c hl (o : Int) (s : Int) (by omega) false hc2)
  have HW1 := Lib.hid hw1
  have HB1 := Lib.hid hb1
  have HN1 := Lib.hid hn1
  clear hc hv hu hc2 hr hr1 hw e hup hw1 hb1 hn1
  go_enter Tryz.func59, Tryz.ntmps59
  go_wp2_with fail
  rw [HW1.out]
  with_reducible refine HC.out.mono ?_
  rintro e w2 ⟨rfl, rfl⟩
  go_wp2_with fail
  with_reducible refine HW.out.mono ?_
  rintro e w2 ⟨rfl, rfl⟩
  go_wp2_with fail
  with_reducible refine HU.out.mono ?_
  rintro e w2 ⟨rfl, rfl⟩
  go_wp2_with fail
  with_reducible refine HC2.out.mono ?_
  rintro e w2 ⟨rfl, rfl⟩
  obtain ⟨⟨c0, c1, c2⟩, f0, f1, f2⟩ := blk_cells HN1.out
  go_wp2
  (try simp only [Exit.inBlock, Exit.then])
  refine blk_ret (x := .bool false) Tryz.results59 ?_ ?_ ?_ (blk_set HN1.out _ _ _) ?_
  · rfl
  · rfl
  · rfl
  · exact ⟨rfl, ((HB1.out.setCell (Nat.le_refl _) _).setCell (Nat.le_refl _) _).setCell (Nat.le_refl _) _⟩

set_option maxHeartbeats 1000000 in
theorem rgetB_4 (A : Option Addr) (c B : Nat) (bs : List UInt8) (hr : Rd w B A bs.length bs) (hlc : bs.length ≤ c) (hl : bs.length ≤ 1000000) (o : Nat) (v : Nat) (s : Nat) (u : Bool) (hc : could bs.length o 8 = true) (hv : wordN bs o = v) (hu : unpN v = some (s, u)) (hc2 : could bs.length o s = true) (v2 : Nat) (hv2 : wordN bs (o + s - 8) = v2) (hne : v2 ≠ v) :
    Calls Tryz.prog 59 #[.slice A bs.length c, .int .i64 (o : Int)] w fun e w' => e = .returned (.tuple #[bkV none, .bool false]) ∧ Below w.heap.size w w' := by
  have hb := (could_iff _ _ _).1 hc
  have hb2 := (could_iff _ _ _).1 hc2
  have hss := (isSz_iff _).1 (unpN_some hu).1
  obtain ⟨w1, hw1⟩ : ∃ w1, w.alloc (.cells #[.int .i64 0, .int .i64 0, .bool false] 51) = w1 := ⟨_, rfl⟩
  have hb1 : Below w.heap.size w w1 := by rw [← hw1]; exact (Below.refl _ _).alloc (Nat.le_refl _) _
  have hn1 : w1.heap[w.heap.size]? = some (.cells #[.int .i64 0, .int .i64 0, .bool false] 51 (0, 0)) := by rw [← hw1]; exact heap_alloc_new w _
  have HC := Lib.hid (rcould_any w1 A bs.length c hl (o : Int) 8 (by omega) true hc)
  have hr1 : Rd w1 B A bs.length bs := by rw [← hw1]; exact hr.alloc' _
  have hw := rword_any w1 A c B bs hr1 hlc hl (o : Int) (by omega)
  have e : word? bs (o : Int) = some v := by unfold word?; rw [if_pos (by omega), Int.toNat_natCast, hv]
  rw [e] at hw
  have hup := runpack_any w1 v (by rw [← hv]; exact wordN_lt _ _)
  rw [hu] at hup
  dsimp only [wordV] at hw
  dsimp only [unpV] at hup
  have HW := Lib.hid hw
  have HU := Lib.hid hup
  have HC2 := Lib.hid (rcould_any w1 A bs.length c hl (o : Int) (s : Int) (by omega) true hc2)
  have hwb := rword_any w1 A c B bs hr1 hlc hl ((o : Int) + (s : Int) - 8) (by omega)
  have e2 : word? bs ((o : Int) + (s : Int) - 8) = some v2 := by
    unfold word?
    rw [if_pos (by omega), show ((o : Int) + (s : Int) - 8).toNat = o + s - 8 by omega, hv2]
  rw [e2] at hwb
  dsimp only [wordV] at hwb
  have HWB := Lib.hid hwb
  have hq : ((v2 : Int) != (v : Int)) = true := by rw [bne_iff_ne]; omega
  have HW1 := Lib.hid hw1
  have HB1 := Lib.hid hb1
  have HN1 := Lib.hid hn1
  clear hc hv hu hc2 hv2 hne hr hr1 hw e hup hwb e2 hw1 hb1 hn1
  go_enter Tryz.func59, Tryz.ntmps59
  go_wp2_with fail
  rw [HW1.out]
  with_reducible refine HC.out.mono ?_
  rintro e w2 ⟨rfl, rfl⟩
  go_wp2_with fail
  with_reducible refine HW.out.mono ?_
  rintro e w2 ⟨rfl, rfl⟩
  go_wp2_with fail
  with_reducible refine HU.out.mono ?_
  rintro e w2 ⟨rfl, rfl⟩
  go_wp2_with fail
  with_reducible refine HC2.out.mono ?_
  rintro e w2 ⟨rfl, rfl⟩
  go_wp2_with fail
  with_reducible refine HWB.out.mono ?_
  rintro e w2 ⟨rfl, rfl⟩
  obtain ⟨⟨c0, c1, c2⟩, f0, f1, f2⟩ := blk_cells HN1.out
  go_wp2
  (try simp only [Exit.inBlock, Exit.then])
  refine blk_ret (x := .bool false) Tryz.results59 ?_ ?_ ?_ (blk_set HN1.out _ _ _) ?_
  · rfl
  · rfl
  · rfl
  · exact ⟨rfl, ((HB1.out.setCell (Nat.le_refl _) _).setCell (Nat.le_refl _) _).setCell (Nat.le_refl _) _⟩

set_option maxHeartbeats 1000000 in
theorem rgetB_5 (A : Option Addr) (c B : Nat) (bs : List UInt8) (hr : Rd w B A bs.length bs) (hlc : bs.length ≤ c) (hl : bs.length ≤ 1000000) (o : Nat) (v : Nat) (s : Nat) (u : Bool) (hc : could bs.length o 8 = true) (hv : wordN bs o = v) (hu : unpN v = some (s, u)) (hc2 : could bs.length o s = true) (hv2 : wordN bs (o + s - 8) = v) :
    Calls Tryz.prog 59 #[.slice A bs.length c, .int .i64 (o : Int)] w fun e w' => e = .returned (.tuple #[bkV (some ⟨o, s, u⟩), .bool true]) ∧ Below w.heap.size w w' := by
  have hb := (could_iff _ _ _).1 hc
  have hb2 := (could_iff _ _ _).1 hc2
  have hss := (isSz_iff _).1 (unpN_some hu).1
  obtain ⟨w1, hw1⟩ : ∃ w1, w.alloc (.cells #[.int .i64 0, .int .i64 0, .bool false] 51) = w1 := ⟨_, rfl⟩
  have hb1 : Below w.heap.size w w1 := by rw [← hw1]; exact (Below.refl _ _).alloc (Nat.le_refl _) _
  have hn1 : w1.heap[w.heap.size]? = some (.cells #[.int .i64 0, .int .i64 0, .bool false] 51 (0, 0)) := by rw [← hw1]; exact heap_alloc_new w _
  have HC := Lib.hid (rcould_any w1 A bs.length c hl (o : Int) 8 (by omega) true hc)
  have hr1 : Rd w1 B A bs.length bs := by rw [← hw1]; exact hr.alloc' _
  have hw := rword_any w1 A c B bs hr1 hlc hl (o : Int) (by omega)
  have e : word? bs (o : Int) = some v := by unfold word?; rw [if_pos (by omega), Int.toNat_natCast, hv]
  rw [e] at hw
  have hup := runpack_any w1 v (by rw [← hv]; exact wordN_lt _ _)
  rw [hu] at hup
  dsimp only [wordV] at hw
  dsimp only [unpV] at hup
  have HW := Lib.hid hw
  have HU := Lib.hid hup
  have HC2 := Lib.hid (rcould_any w1 A bs.length c hl (o : Int) (s : Int) (by omega) true hc2)
  have hwb := rword_any w1 A c B bs hr1 hlc hl ((o : Int) + (s : Int) - 8) (by omega)
  have e2 : word? bs ((o : Int) + (s : Int) - 8) = some v := by
    unfold word?
    rw [if_pos (by omega), show ((o : Int) + (s : Int) - 8).toNat = o + s - 8 by omega, hv2]
  rw [e2] at hwb
  dsimp only [wordV] at hwb
  have HWB := Lib.hid hwb
  have HW1 := Lib.hid hw1
  have HB1 := Lib.hid hb1
  have HN1 := Lib.hid hn1
  clear hc hv hu hc2 hv2 hr hr1 hw e hup hwb e2 hw1 hb1 hn1
  go_enter Tryz.func59, Tryz.ntmps59
  go_wp2_with fail
  rw [HW1.out]
  with_reducible refine HC.out.mono ?_
  rintro e w2 ⟨rfl, rfl⟩
  go_wp2_with fail
  with_reducible refine HW.out.mono ?_
  rintro e w2 ⟨rfl, rfl⟩
  go_wp2_with fail
  with_reducible refine HU.out.mono ?_
  rintro e w2 ⟨rfl, rfl⟩
  go_wp2_with fail
  with_reducible refine HC2.out.mono ?_
  rintro e w2 ⟨rfl, rfl⟩
  go_wp2_with fail
  with_reducible refine HWB.out.mono ?_
  rintro e w2 ⟨rfl, rfl⟩
  obtain ⟨⟨c0, c1, c2⟩, f0, f1, f2⟩ := blk_cells HN1.out
  go_wp2
  (try simp only [Exit.inBlock, Exit.then])
  refine blk_ret (x := .bool true) Tryz.results59 ?_ ?_ ?_ (blk_set HN1.out _ _ _) ?_
  · rfl
  · rfl
  · rfl
  · exact ⟨rfl, ((HB1.out.setCell (Nat.le_refl _) _).setCell (Nat.le_refl _) _).setCell (Nat.le_refl _) _⟩

theorem rgetB_any (A : Option Addr) (c B : Nat) (bs : List UInt8) (hr : Rd w B A bs.length bs) (hlc : bs.length ≤ c) (hl : bs.length ≤ 1000000) (o : Int) (ho : -9223372036854775808 ≤ o ∧ o ≤ 9223372036854775807) (x : Option Bk) (hx : getB bs o = x) :
    Calls Tryz.prog 59 #[.slice A bs.length c, .int .i64 o] w fun e w' => e = .returned (.tuple #[bkV x, .bool x.isSome]) ∧ Below w.heap.size w w' := by
  subst hx
  cases hc : could bs.length o 8 with
  | false =>
    have e : getB bs o = none := by unfold getB; rw [if_pos hc]
    rw [e]
    exact rgetB_1 w A c bs hl o ho hc
  | true =>
    have hb := (could_iff _ _ _).1 hc
    obtain ⟨p, rfl⟩ : ∃ p : Nat, o = (p : Int) := ⟨o.toNat, by omega⟩
    cases hu : unpN (wordN bs p) with
    | none =>
      have e : getB bs (p : Int) = none := by unfold getB; rw [if_neg (by rw [hc]; simp), Int.toNat_natCast, hu]
      rw [e]
      exact rgetB_2 w A c B bs hr hlc hl p _ hc rfl hu
    | some su =>
      obtain ⟨s, u⟩ := su
      cases hc2 : could bs.length (p : Int) (s : Int) with
      | false =>
        have e : getB bs (p : Int) = none := by unfold getB; rw [if_neg (by rw [hc]; simp), Int.toNat_natCast, hu]; dsimp only; rw [if_pos hc2]
        rw [e]
        exact rgetB_3 w A c B bs hr hlc hl p _ s u hc rfl hu hc2
      | true =>
        by_cases hw : wordN bs (p + s - 8) = wordN bs p
        · have e : getB bs (p : Int) = some ⟨p, s, u⟩ := by unfold getB; rw [if_neg (by rw [hc]; simp), Int.toNat_natCast, hu]; dsimp only; rw [if_neg (by rw [hc2]; simp), if_pos hw]
          rw [e]
          exact rgetB_5 w A c B bs hr hlc hl p _ s u hc rfl hu hc2 hw
        · have e : getB bs (p : Int) = none := by unfold getB; rw [if_neg (by rw [hc]; simp), Int.toNat_natCast, hu]; dsimp only; rw [if_neg (by rw [hc2]; simp), if_neg hw]
          rw [e]
          exact rgetB_4 w A c B bs hr hlc hl p _ s u hc rfl hu hc2 _ rfl hw
end
end Go.Proofs.YtbemaoncakcnjaaGreat
