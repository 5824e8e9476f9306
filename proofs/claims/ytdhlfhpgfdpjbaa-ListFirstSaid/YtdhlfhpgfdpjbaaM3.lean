/- Texts of mine, joined: Ref1, Tag1, BlkM, WordM, ListM, BitM. -/
import Derived.Laws.BitsAllLaws
import Derived.Test.YtdhlfhpgfdpjbaaM2

/- The contracts of the document's own numbers: Get, Low, IsSize, Pack, Unpack, Need, Class. -/
namespace Go.Proofs.Ytdhlfhpgfdpjbaa
open Go.RowKit

theorem rt_i {k : IntKind} {a b : Int} (h : a = b) : Ending.returned (.int k a) = .returned (.int k b) := by rw [h]
theorem rt_b {a b : Bool} (h : a = b) : Ending.returned (.bool a) = .returned (.bool b) := by rw [h]

theorem low_div (v k q : Nat) (h : v / 256 ^ k = q) : Value.int .u64 ((q : Int) / 256) = Value.int .u64 ((v / 256 ^ (k + 1) : Nat) : Int) := by
  rw [Nat.pow_succ, ← Nat.div_div_eq_div_mul, h]; simp
theorem low_row (v k q : Nat) (h : v / 256 ^ k = q) : (lowB (k + 1) v).map bv = (lowB k v).map bv ++ [Value.int .u8 ((q : Int) % 256)] := by
  rw [lowB_snoc, List.map_append, h]
  simp only [List.map_cons, List.map_nil, bv, toNat_ofNat_mod]
  simp

section
variable (w : World)
set_option maxHeartbeats 400000 in
theorem rissize_any (n : Int) (hn : -9223372036854775808 ≤ n ∧ n ≤ 9223372036854775807) (b : Bool) (hb : isSz n = b) :
    Calls Try.prog 21 #[.int .i64 n] w fun e w' => e = .returned (.bool b) ∧ w = w' := by
  by_cases h1 : 32 ≤ n
  · by_cases h2 : n ≤ 16384
    · have e : (n % 16 == 0) = b := by rw [← hb]; simp [isSz, h1, h2]
      have HE := Lib.hid e
      clear hb e
      go_enter Try.func21, Try.ntmps21
      go_wp2
      go_ret
      exact ⟨rt_b HE.out, rfl⟩
    · obtain rfl : false = b := by rw [← hb]; simp [isSz, h2]
      clear hb
      go_enter Try.func21, Try.ntmps21
      go_wp2
      go_ret
      exact ⟨rfl, rfl⟩
  · obtain rfl : false = b := by rw [← hb]; simp [isSz, h1]
    clear hb
    go_enter Try.func21, Try.ntmps21
    go_wp2
    go_ret
    exact ⟨rfl, rfl⟩

/-- What Unpack tells. -/
def unpV (o : Option (Nat × Bool)) : Value := match o with
  | some (s, u) => .tuple #[.int .i64 (s : Int), .bool u, .bool true]
  | none => .tuple #[.int .i64 0, .bool false, .bool false]

/-- What Need tells. -/
def needV (o : Option Nat) : Value := match o with
  | some s => .tuple #[.int .i64 (s : Int), .bool true]
  | none => .tuple #[.int .i64 0, .bool false]

set_option maxHeartbeats 1000000 in
theorem rclass_any (s : Int) (hs : -9223372036854775808 ≤ s ∧ s ≤ 9223372036854775807) (c : Int) (hc : classI s = c) :
    Calls Try.prog 8 #[.int .i64 s] w fun e w' => e = .returned (.int .i64 c) ∧ w = w' := by
  cases hb : isSz s
  · obtain rfl : -1 = c := by rw [← hc]; simp [classI, hb]
    have HI := Lib.hid (rissize_any w s hs false hb)
    clear hc hb
    go_enter Try.func8, Try.ntmps8
    go_wp2_with fail
    with_reducible refine HI.out.mono ?_
    rintro e w1 ⟨rfl, rfl⟩
    go_wp2
    go_ret
    exact ⟨rfl, rfl⟩
  · have h := (isSz_iff s).1 hb
    have HI := Lib.hid (rissize_any w s hs true hb)
    have hc' : classI s = c := hc
    unfold classI at hc
    rw [if_neg (by simp [hb])] at hc
    by_cases h0 : s ≤ 256
    · rw [if_pos h0] at hc
      have HC := Lib.hid hc
      clear hc hc' hb
      go_enter Try.func8, Try.ntmps8
      go_wp2_with fail
      with_reducible refine HI.out.mono ?_
      rintro e w1 ⟨rfl, rfl⟩
      go_wp2
      go_ret
      exact ⟨rt_i HC.out, rfl⟩
    · rw [if_neg h0] at hc
      have HC := Lib.hid hc
      clear hc hc' hb
      go_enter Try.func8, Try.ntmps8
      go_wp2_with fail
      with_reducible refine HI.out.mono ?_
      rintro e w1 ⟨rfl, rfl⟩
      go_wp2
      go_loop [4, 5] (fun a t => ∃ k P : Nat, k ≤ 6 ∧ P = 2 ^ k ∧ a = .int .i64 ((15 + k : Nat) : Int) ∧ t = .int .i64 ((512 * P : Nat) : Int) ∧ (256 * P : Int) ≤ s) (fun a _ => 21 - (intOf a).toNat)
      case atStart => exact ⟨0, 1, by omega, rfl, rfl, rfl, by omega⟩
      case round =>
        obtain ⟨k, P, hk, hP, rfl, rfl, hlo⟩ := hrel
        have hP6 : P ≤ 64 := by rw [hP]; exact Nat.pow_le_pow_right (by omega) hk
        by_cases hge : (512 * P : Int) ≤ s
        · have hk5 : k < 6 := by
            rcases Nat.lt_or_ge k 6 with h | h
            · exact h
            · obtain rfl : k = 6 := by omega
              rw [hP] at hge; omega
          have HP := Lib.hid hP
          have g1 : ((512 * P : Nat) : Int) ≤ s := by omega
          clear hP
          go_wp2
          go_round
          case rel => exact ⟨k + 1, 2 * P, by omega, by rw [Nat.pow_succ, HP.out]; omega, by go_num, by go_num, by omega⟩
          case measure => simp [intOf]; omega
        · have g1 : ¬ ((512 * P : Nat) : Int) ≤ s := by omega
          have HR : Hid (((15 + k : Nat) : Int) = c) := (show _ = _ by
            rw [← HC.out]
            match k, hk, hP with
            | 0, _, hP => simp at hP; subst hP; repeat' split
                          all_goals omega
            | 1, _, hP => simp at hP; subst hP; repeat' split
                          all_goals omega
            | 2, _, hP => simp at hP; subst hP; repeat' split
                          all_goals omega
            | 3, _, hP => simp at hP; subst hP; repeat' split
                          all_goals omega
            | 4, _, hP => simp at hP; subst hP; repeat' split
                          all_goals omega
            | 5, _, hP => simp at hP; subst hP; repeat' split
                          all_goals omega
            | 6, _, hP => simp at hP; subst hP; repeat' split
                          all_goals omega)
          clear hP HC
          go_wp2
          go_ret
          exact ⟨rt_i HR.out, rfl⟩
end
end Go.Proofs.Ytdhlfhpgfdpjbaa

/- The contracts of the program's tags: isSize, Pack, Unpack; the head of the laws of layer 6. -/
namespace Go.Proofs.Ytdhlfhpgfdpjbaa
open Go.RowKit

theorem andnot_one (v : Nat) (hv : v ≤ 16385) : wrap64 (bits .andNot .u64 (v : Int) 1) = ((v - v % 2 : Nat) : Int) := by
  have h : bits .andNot .u64 (v : Int) ((1 : Nat) : Int) = ((v &&& (18446744073709551615 - 1) : Nat) : Int) := by
    have hx : v &&& (18446744073709551615 - 1) < 2 ^ 64 := Nat.and_lt_two_pow _ (by omega)
    show IntKind.u64.wrap ((BitVec.ofInt 64 (v : Int) &&& ~~~BitVec.ofInt 64 ((1 : Nat) : Int)).toNat : Int) = _
    rw [BitVec.toNat_and, BitVec.toNat_not, ofInt_u64 v (by omega), ofInt_u64 1 (by omega), IntKind.wrap_u64]
    have e : 2 ^ 64 - 1 - 1 = 18446744073709551615 - 1 := by omega
    rw [e]
    omega
  have h2 : v &&& (18446744073709551615 - 1) = v - v % 2 := by
    rw [nat_hi64_1, Nat.mod_eq_of_lt (by omega)]
    omega
  have h3 : bits .andNot .u64 (v : Int) 1 = ((v - v % 2 : Nat) : Int) := by rw [← h2]; exact h
  rw [h3]
  have h4 := Nat.sub_le v (v % 2)
  unfold wrap64
  omega
theorem and_one (v : Nat) (hv : v < 18446744073709551616) : (bits .and .u64 (v : Int) 1 == 1) = (v % 2 == 1) := by
  have h : bits .and .u64 (v : Int) 1 = ((v &&& 1 : Nat) : Int) := u64_and_nat v 1 hv (by omega)
  rw [h, Nat.and_one_is_mod, Bool.eq_iff_iff, beq_iff_eq, beq_iff_eq]
  omega

section
variable (w : World)
set_option maxHeartbeats 400000 in
theorem tissize_any (n : Int) (hn : -9223372036854775808 ≤ n ∧ n ≤ 9223372036854775807) (b : Bool) (hb : isSz n = b) :
    Calls Try.prog 32 #[.int .i64 n] w fun e w' => e = .returned (.bool b) ∧ w = w' := by
  by_cases h1 : 32 ≤ n
  · by_cases h2 : n ≤ 16384
    · have e : (n % 16 == 0) = b := by rw [← hb]; simp [isSz, h1, h2]
      have HE := Lib.hid e
      clear hb e
      go_enter Try.func32, Try.ntmps32
      go_wp2
      go_ret
      exact ⟨rt_b HE.out, rfl⟩
    · obtain rfl : false = b := by rw [← hb]; simp [isSz, h2]
      clear hb
      go_enter Try.func32, Try.ntmps32
      go_wp2
      go_ret
      exact ⟨rfl, rfl⟩
  · obtain rfl : false = b := by rw [← hb]; simp [isSz, h1]
    clear hb
    go_enter Try.func32, Try.ntmps32
    go_wp2
    go_ret
    exact ⟨rfl, rfl⟩

set_option maxHeartbeats 400000 in
theorem tpack_any (s : Int) (u : Bool) (hs : -9223372036854775808 ≤ s ∧ s ≤ 9223372036854775807) (m : Nat) (hm : packN s u = m) :
    Calls Try.prog 17 #[.int .i64 s, .bool u] w fun e w' => e = .returned (.int .u64 (m : Int)) ∧ w = w' := by
  cases hb : isSz s
  · obtain rfl : 0 = m := by rw [← hm]; simp [packN, hb]
    have HI := Lib.hid (tissize_any w s hs false hb)
    clear hm hb
    go_enter Try.func17, Try.ntmps17
    go_wp2_with fail
    with_reducible refine HI.out.mono ?_
    rintro e w1 ⟨rfl, rfl⟩
    go_wp2
    go_ret
    exact ⟨rfl, rfl⟩
  · have h := (isSz_iff s).1 hb
    have HI := Lib.hid (tissize_any w s hs true hb)
    obtain ⟨n, rfl⟩ : ∃ n : Nat, s = (n : Int) := ⟨s.toNat, by omega⟩
    have hn : n ≤ 16384 := by omega
    have HM : Hid (n + (if u = true then 1 else 0) = m) := (show _ = _ by rw [← hm]; simp [packN, hb])
    clear hm hb h
    cases u
    · go_enter Try.func17, Try.ntmps17
      go_wp2_with fail
      with_reducible refine HI.out.mono ?_
      rintro e w1 ⟨rfl, rfl⟩
      go_wp2
      go_ret
      exact ⟨rt_i (by have := HM.out; simp at this; omega), rfl⟩
    · go_enter Try.func17, Try.ntmps17
      go_wp2_with fail
      with_reducible refine HI.out.mono ?_
      rintro e w1 ⟨rfl, rfl⟩
      go_wp2
      go_ret
      exact ⟨rt_i (by have := HM.out; simp at this; omega), rfl⟩

set_option maxHeartbeats 400000 in
theorem tunpack_any (v : Nat) (hv : v < 18446744073709551616) :
    Calls Try.prog 40 #[.int .u64 (v : Int)] w fun e w' => e = .returned (unpV (unpN v)) ∧ w = w' := by
  by_cases h0 : 16385 < v
  · have e : unpN v = none := by
      unfold unpN
      rw [if_neg]
      rintro ⟨_, h⟩
      have := (isSz_iff _).1 h
      omega
    rw [e]
    clear e
    go_enter Try.func40, Try.ntmps40
    go_wp2
    go_ret3
    exact ⟨rfl, rfl⟩
  · obtain ⟨s, hs⟩ : ∃ s : Nat, v - v % 2 = s := ⟨_, rfl⟩
    have hs2 : wrap64 (bits .andNot .u64 (v : Int) 1) = (s : Int) := by rw [andnot_one v (by omega), hs]
    cases hb : isSz (s : Int)
    · have e : unpN v = none := by unfold unpN; rw [hs, if_neg (by simp [hb])]
      rw [e]
      have HI := Lib.hid (tissize_any w (s : Int) (by have := Nat.sub_le v (v % 2); omega) false hb)
      have HS := Lib.hid hs2
      clear e hs hb hs2
      go_enter Try.func40, Try.ntmps40
      go_wp2_with fail
      rw [HS.out]
      with_reducible refine HI.out.mono ?_
      rintro e w1 ⟨rfl, rfl⟩
      go_wp2
      go_ret3
      exact ⟨rfl, rfl⟩
    · have e : unpN v = some (s, v % 2 == 1) := by unfold unpN; rw [hs, if_pos ⟨by omega, hb⟩]
      rw [e]
      have HI := Lib.hid (tissize_any w (s : Int) (by have := Nat.sub_le v (v % 2); omega) true hb)
      have HS := Lib.hid hs2
      have HB := Lib.hid (and_one v hv)
      clear e hs hb hs2
      go_enter Try.func40, Try.ntmps40
      go_wp2_with fail
      rw [HS.out]
      with_reducible refine HI.out.mono ?_
      rintro e w1 ⟨rfl, rfl⟩
      go_wp2
      go_ret3
      refine ⟨?_, rfl⟩
      rw [← HB.out]
      rfl

end
end Go.Proofs.Ytdhlfhpgfdpjbaa

/- Blocks in bytes: plain definitions and facts. No program in sight. -/
namespace Go.Proofs.Ytdhlfhpgfdpjbaa

/-- A block. -/
structure Bk where
  off : Nat
  size : Nat
  used : Bool
deriving DecidableEq
/-- The number of the eight bytes from o on. -/
def wordN (bs : List UInt8) (o : Nat) : Nat := numB ((bs.drop o).take 8)
def word? (bs : List UInt8) (o : Int) : Option Nat := if 0 ≤ o ∧ o + 8 ≤ bs.length then some (wordN bs o.toNat) else none
/-- Could a block of a size stand at o, of so many bytes? -/
def could (n : Nat) (o size : Int) : Bool := decide (184 ≤ o) && (o % 16 == 8 && (decide (o ≤ n) && decide (size ≤ n - o)))
theorem could_iff (n : Nat) (o size : Int) : could n o size = true ↔ 184 ≤ o ∧ o % 16 = 8 ∧ o ≤ n ∧ size ≤ n - o := by simp [could]
/-- The block that stands at o. -/
def getB (bs : List UInt8) (o : Int) : Option Bk :=
  if could bs.length o 8 = false then none else
  match unpN (wordN bs o.toNat) with
  | none => none
  | some (s, u) => if could bs.length o s = false then none else if wordN bs (o.toNat + s - 8) = wordN bs o.toNat then some ⟨o.toNat, s, u⟩ else none
/-- The block that ends at o. -/
def aheadB (bs : List UInt8) (o : Int) : Option Bk :=
  if o < 184 ∨ (bs.length : Int) < o then none else
  match unpN (wordN bs (o.toNat - 8)) with
  | none => none
  | some (s, u) => match getB bs (o - s) with
    | none => none
    | some x => if x.size = s ∧ x.used = u then some x else none

/-- All blocks from o on. -/
def walkF (bs : List UInt8) : Nat → Nat → Option (List Bk)
  | 0, _ => none
  | k + 1, o => if o < bs.length then (match getB bs (o : Int) with
    | none => none
    | some x => (walkF bs k (o + x.size)).map (x :: ·)) else some []
def walkB (bs : List UInt8) : Option (List Bk) := if bs.length < 184 then none else walkF bs (bs.length + 1) 184

theorem wordN_lt (bs : List UInt8) (o : Nat) : wordN bs o < 18446744073709551616 := numB_lt64 _ (by rw [List.length_take]; omega)
theorem getB_some {bs : List UInt8} {o : Int} {x : Bk} (h : getB bs o = some x) : o = (x.off : Int) ∧ 184 ≤ x.off ∧ x.off % 16 = 8 ∧ x.off + x.size ≤ bs.length ∧ isSz (x.size : Int) = true ∧ unpN (wordN bs x.off) = some (x.size, x.used) ∧ wordN bs (x.off + x.size - 8) = wordN bs x.off := by
  unfold getB at h
  split at h
  · cases h
  · rename_i hc
    have hc' := (could_iff _ _ _).1 (by simpa using hc)
    split at h
    · cases h
    · rename_i s u hu
      split at h
      · cases h
      · rename_i hc2
        have hc2' := (could_iff _ _ _).1 (by simpa using hc2)
        split at h
        · rename_i hw
          injection h with h
          subst h
          have := unpN_some hu
          refine ⟨by dsimp only; omega, by dsimp only; omega, by dsimp only; omega, by dsimp only; omega, this.1, hu, hw⟩
        · cases h
/-- A block stands at o just so. -/
theorem getB_of {bs : List UInt8} {x : Bk} (h1 : 184 ≤ x.off) (h2 : x.off % 16 = 8) (h3 : x.off + x.size ≤ bs.length) (h4 : unpN (wordN bs x.off) = some (x.size, x.used)) (h5 : wordN bs (x.off + x.size - 8) = wordN bs x.off) : getB bs (x.off : Int) = some x := by
  have hs := (isSz_iff _).1 (unpN_some h4).1
  unfold getB
  rw [if_neg (by rw [(could_iff _ _ _).2 (by omega)]; simp)]
  rw [Int.toNat_natCast, h4]
  dsimp only
  rw [if_neg (by rw [(could_iff _ _ _).2 (by omega)]; simp), if_pos h5]

end Go.Proofs.Ytdhlfhpgfdpjbaa

/- Numbers laid into bytes, and bits: plain facts. No program in sight. -/
namespace Go.Proofs.Ytdhlfhpgfdpjbaa

/-- A number laid at an offset. -/
def lyN (bs : List UInt8) (o v : Nat) : List UInt8 := bs.take o ++ (lowB 8 v ++ bs.drop (o + 8))
theorem lyN_length (bs : List UInt8) (o v : Nat) (h : o + 8 ≤ bs.length) : (lyN bs o v).length = bs.length := by
  unfold lyN
  rw [List.length_append, List.length_append, lowB_length, List.length_take, List.length_drop]
  omega
theorem lyN_get (bs : List UInt8) (o v i : Nat) (h : o + 8 ≤ bs.length) (hi : i < o ∨ o + 8 ≤ i) : (lyN bs o v)[i]? = bs[i]? := by
  unfold lyN
  have e1 : (bs.take o).length = o := by rw [List.length_take]; omega
  rcases hi with hi | hi
  · rw [List.getElem?_append_left (by omega), List.getElem?_take_of_lt hi]
  · rw [List.getElem?_append_right (by omega), e1, List.getElem?_append_right (by rw [lowB_length]; omega), lowB_length, List.getElem?_drop]
    congr 1
    omega
theorem wordN_same (bs : List UInt8) (o v : Nat) (h : o + 8 ≤ bs.length) (hv : v < 18446744073709551616) : wordN (lyN bs o v) o = v := by
  have e1 : (bs.take o).length = o := by rw [List.length_take]; omega
  have e : ((lyN bs o v).drop o).take 8 = lowB 8 v := by
    unfold lyN
    rw [List.drop_append, e1, List.drop_eq_nil_of_le (by omega), List.nil_append, Nat.sub_self, List.drop_zero]
    have := lowB_length 8 v
    rw [List.take_append_of_le_length (by omega), List.take_of_length_le (by omega)]
  unfold wordN
  rw [e, numB_lowB]
  exact Nat.mod_eq_of_lt hv
theorem wordN_congr (bs bs' : List UInt8) (p : Nat) (h : ∀ i, p ≤ i → i < p + 8 → bs'[i]? = bs[i]?) : wordN bs' p = wordN bs p := by
  unfold wordN
  congr 1
  apply List.ext_getElem?
  intro i
  rcases Nat.lt_or_ge i 8 with hi | hi
  · rw [List.getElem?_take_of_lt hi, List.getElem?_take_of_lt hi, List.getElem?_drop, List.getElem?_drop]
    exact h _ (by omega) (by omega)
  · rw [List.getElem?_eq_none (by rw [List.length_take]; omega), List.getElem?_eq_none (by rw [List.length_take]; omega)]
theorem wordN_other (bs : List UInt8) (o v p : Nat) (h : o + 8 ≤ bs.length) (hd : p + 8 ≤ o ∨ o + 8 ≤ p) : wordN (lyN bs o v) p = wordN bs p :=
  wordN_congr _ _ _ fun i h1 h2 => lyN_get bs o v i h (by omega)

/-- Blocks stand by their tags. -/
theorem getB_congr (bs bs' : List UInt8) (x : Bk) (hl : bs'.length = bs.length) (hx : getB bs (x.off : Int) = some x) (h1 : wordN bs' x.off = wordN bs x.off) (h2 : wordN bs' (x.off + x.size - 8) = wordN bs (x.off + x.size - 8)) : getB bs' (x.off : Int) = some x := by
  obtain ⟨_, g1, g2, g3, g4, g5, g6⟩ := getB_some hx
  exact getB_of g1 g2 (by omega) (by rw [h1]; exact g5) (by rw [h1, h2]; exact g6)

/-- A bit of a number. -/
def bitN (w c : Nat) : Bool := w / 2 ^ c % 2 == 1
theorem bitN_succ (w c : Nat) : bitN w (c + 1) = bitN (w / 2) c := by
  unfold bitN
  rw [Nat.pow_succ, Nat.mul_comm, Nat.div_div_eq_div_mul]
theorem bitN_add (w c : Nat) (h : bitN w c = false) (d : Nat) : bitN (w + 2 ^ c) d = if d = c then true else bitN w d := by
  induction c generalizing w d with
  | zero =>
    have h0 : w % 2 = 0 := by
      unfold bitN at h
      simp at h
      omega
    cases d with
    | zero => simp [bitN]; omega
    | succ d =>
      rw [if_neg (by omega), bitN_succ, bitN_succ]
      congr 1
      simp; omega
  | succ c ih =>
    rw [bitN_succ] at h
    have e : (w + 2 ^ (c + 1)) / 2 = w / 2 + 2 ^ c := by rw [Nat.pow_succ]; omega
    cases d with
    | zero =>
      rw [if_neg (by omega)]
      simp only [bitN, Nat.pow_zero, Nat.div_one]
      rw [Nat.pow_succ]
      congr 1
      omega
    | succ d =>
      rw [bitN_succ, e, ih (w / 2) h d, bitN_succ w d]
      by_cases hd : d = c
      · rw [if_pos hd, if_pos (by omega)]
      · rw [if_neg hd, if_neg (by omega)]
theorem bitN_ge (w c : Nat) (h : bitN w c = true) : 2 ^ c ≤ w := by
  unfold bitN at h
  rw [beq_iff_eq] at h
  rcases Nat.lt_or_ge w (2 ^ c) with h1 | h1
  · rw [Nat.div_eq_of_lt h1] at h; cases h
  · exact h1
theorem bitN_sub_c (w c : Nat) (h : bitN w c = true) : bitN (w - 2 ^ c) c = false := by
  have hg := bitN_ge w c h
  have hp : 0 < 2 ^ c := Nat.two_pow_pos c
  unfold bitN at h ⊢
  rw [beq_iff_eq] at h
  have e : w / 2 ^ c = (w - 2 ^ c) / 2 ^ c + 1 := by
    conv => lhs; rw [← Nat.sub_add_cancel hg]
    rw [Nat.add_div_right _ hp]
  rw [e] at h
  rw [beq_eq_false_iff_ne]
  omega
theorem bitN_sub (w c : Nat) (h : bitN w c = true) (d : Nat) : bitN (w - 2 ^ c) d = if d = c then false else bitN w d := by
  have hg := bitN_ge w c h
  have h0 := bitN_sub_c w c h
  have := bitN_add (w - 2 ^ c) c h0 d
  rw [Nat.sub_add_cancel hg] at this
  by_cases hd : d = c
  · rw [if_pos hd, hd]; exact h0
  · rw [if_neg hd] at this ⊢
    exact this.symm
theorem bitN_lt (w c : Nat) (hc : c < 64) (hw : w < 18446744073709551616) (h : bitN w c = false) : w + 2 ^ c < 18446744073709551616 := by
  have e : (18446744073709551616 : Nat) = 2 ^ (63 - c) * 2 * 2 ^ c := by
    rw [← Nat.pow_succ, ← Nat.pow_add, show (63 - c).succ + c = 64 by omega]
  have hp : 0 < 2 ^ c := Nat.two_pow_pos c
  have h1 : w / 2 ^ c < 2 ^ (63 - c) * 2 := by
    rw [Nat.div_lt_iff_lt_mul hp, ← e]; exact hw
  have h2 : w / 2 ^ c % 2 = 0 := by
    unfold bitN at h
    rw [beq_eq_false_iff_ne] at h
    omega
  have h3 : w / 2 ^ c + 2 ≤ 2 ^ (63 - c) * 2 := by omega
  have h4 := Nat.div_add_mod w (2 ^ c)
  have h5 := Nat.mod_lt w hp
  have h6 : (w / 2 ^ c + 2) * 2 ^ c ≤ 2 ^ (63 - c) * 2 * 2 ^ c := Nat.mul_le_mul_right _ h3
  rw [← e, Nat.add_mul, Nat.mul_comm (w / 2 ^ c)] at h6
  omega
end Go.Proofs.Ytdhlfhpgfdpjbaa

/- Lists of free blocks in bytes: plain definitions; what Put, Take, All come to where the lists are right. No program in sight. -/
namespace Go.Proofs.Ytdhlfhpgfdpjbaa

/-- The number at an offset; 0, if there is none. -/
def numO (bs : List UInt8) (o : Int) : Nat := (word? bs o).getD 0
/-- The class of the free block at o; -1: there is none. -/
def freeI (bs : List UInt8) (o : Int) : Int := match getB bs o with
  | some x => if x.used = true then -1 else classI x.size
  | none => -1
/-- Does a free block of a class stand there? -/
def memberB (bs : List UInt8) (p : Nat) (c : Int) : Bool := decide (p ≤ 20000) && (match getB bs (p : Int) with
  | some x => !x.used && classI x.size == c
  | none => false)
/-- A class's bit, as its first one tells. -/
def markB (bs : List UInt8) (c : Nat) : List UInt8 :=
  if bitN (wordN bs 0) c = true ∧ wordN bs (8 + 8 * c) = 0 then lyN bs 0 (wordN bs 0 - 2 ^ c)
  else if bitN (wordN bs 0) c = false ∧ wordN bs (8 + 8 * c) ≠ 0 then lyN bs 0 (wordN bs 0 + 2 ^ c) else bs
/-- What comes of putting the block at o. -/
def putB (bs : List UInt8) (o : Int) : Option (List UInt8) :=
  if freeI bs o < 0 then none else
  let c := (freeI bs o).toNat
  let f := wordN bs (8 + 8 * c)
  if (f : Int) = o ∨ (f ≠ 0 ∧ memberB bs f (c : Int) = false) then none else
  let b1 := lyN (lyN bs (o.toNat + 8) f) (o.toNat + 16) 0
  let b2 := if f ≠ 0 then lyN b1 (f + 16) o.toNat else b1
  some (markB (lyN b2 (8 + 8 * c) o.toNat) c)
/-- What comes of taking the block at o (who had it as next has its next, and so has the class's number, if it was the first: in a list that is broken both may be). -/
def takeB (bs : List UInt8) (o : Int) : Option (List UInt8) :=
  if freeI bs o < 0 then none else
  let c := (freeI bs o).toNat
  let n := wordN bs (o.toNat + 8)
  let p := wordN bs (o.toNat + 16)
  if p = 0 ∧ (wordN bs (8 + 8 * c) : Int) ≠ o then none
  else if p ≠ 0 ∧ (memberB bs p (c : Int) = false ∨ (wordN bs (p + 8) : Int) ≠ o) then none
  else if n ≠ 0 ∧ (memberB bs n (c : Int) = false ∨ (wordN bs (n + 16) : Int) ≠ o) then none
  else
    let b1 := if p = 0 then lyN bs (8 + 8 * c) n else lyN bs (p + 8) n
    let b2 := if n ≠ 0 then lyN b1 (n + 16) p else b1
    let b3 := if p ≠ 0 ∧ (wordN bs (8 + 8 * c) : Int) = o then lyN b2 (8 + 8 * c) n else b2
    some (markB b3 c)
/-- All of a class, from one on. -/
def allF (bs : List UInt8) (c : Nat) : Nat → Nat → Nat → Option (List Nat)
  | k, last, p => if p = 0 then some [] else match k with
    | 0 => none
    | k + 1 => if memberB bs p (c : Int) = true ∧ wordN bs (p + 16) = last then (allF bs c k p (wordN bs (p + 8))).map (p :: ·) else none
def allB (bs : List UInt8) (c : Nat) : Option (List Nat) :=
  if bs.length < 184 then none
  else if bitN (wordN bs 0) c ≠ decide (wordN bs (8 + 8 * c) ≠ 0) then none
  else allF bs c 1024 0 (wordN bs (8 + 8 * c))

/-- Blocks that stand, apart from each other. -/
structure Stands (bs : List UInt8) (P : List Bk) : Prop where
  at_ : ∀ x ∈ P, getB bs (x.off : Int) = some x
  apart : ∀ x ∈ P, ∀ y ∈ P, x = y ∨ x.off + x.size ≤ y.off ∨ y.off + y.size ≤ x.off
/-- The numbers of a list's blocks, one behind the other: p is ahead of it, n behind. -/
def link (bs : List UInt8) : Nat → List Nat → Nat → Prop
  | _, [], _ => True
  | p, o :: r, n => wordN bs (o + 16) = p ∧ wordN bs (o + 8) = r.headD n ∧ link bs o r n
/-- The lists of all classes, of blocks out of P. -/
structure Lists (bs : List UInt8) (P : List Bk) (L : Nat → List Nat) : Prop where
  len : 184 ≤ bs.length
  small : bs.length ≤ 16384
  st : Stands bs P
  head : ∀ c, c < 22 → wordN bs (8 + 8 * c) = (L c).headD 0
  bit : ∀ c, c < 22 → bitN (wordN bs 0) c = !(L c).isEmpty
  mem : ∀ c, c < 22 → ∀ o ∈ L c, ∃ x ∈ P, x.off = o ∧ x.used = false ∧ classI x.size = (c : Int)
  links : ∀ c, c < 22 → link bs 0 (L c) 0
  nodup : ∀ c, c < 22 → (L c).Nodup

theorem link_append (bs : List UInt8) (l1 l2 : List Nat) (p n : Nat) : link bs p (l1 ++ l2) n ↔ link bs p l1 (l2.headD n) ∧ link bs (l1.getLastD p) l2 n := by
  induction l1 generalizing p with
  | nil => simp [link]
  | cons o r ih =>
    have e : (r ++ l2).headD n = r.headD (l2.headD n) := by cases r <;> rfl
    have e2 : (o :: r).getLastD p = r.getLastD o := by cases r <;> rfl
    simp only [List.cons_append, link, e, e2, ih]
    constructor
    · rintro ⟨a, b, c, d⟩; exact ⟨⟨a, b, c⟩, d⟩
    · rintro ⟨⟨a, b, c⟩, d⟩; exact ⟨a, b, c, d⟩
theorem link_congr {bs bs' : List UInt8} : ∀ (l : List Nat) (p n : Nat), (∀ o ∈ l, wordN bs' (o + 16) = wordN bs (o + 16) ∧ wordN bs' (o + 8) = wordN bs (o + 8)) → link bs p l n → link bs' p l n
  | [], _, _, _, _ => trivial
  | o :: r, p, n, h, hl => by
    obtain ⟨h1, h2⟩ := h o (by simp)
    obtain ⟨a, b, c⟩ := hl
    exact ⟨h1.trans a, h2.trans b, link_congr r o n (fun q hq => h q (by simp [hq])) c⟩

section
variable {bs : List UInt8} {P : List Bk} {L : Nat → List Nat}
theorem Stands.facts (h : Stands bs P) {x : Bk} (hx : x ∈ P) : 184 ≤ x.off ∧ x.off % 16 = 8 ∧ x.off + x.size ≤ bs.length ∧ 32 ≤ x.size ∧ x.size % 16 = 0 ∧ isSz (x.size : Int) = true := by
  obtain ⟨_, g1, g2, g3, g4, _⟩ := getB_some (h.at_ x hx)
  have := (isSz_iff _).1 g4
  exact ⟨g1, g2, g3, by omega, by omega, g4⟩
theorem Stands.uniq (h : Stands bs P) {x y : Bk} (hx : x ∈ P) (hy : y ∈ P) (e : x.off = y.off) : x = y := by
  have h1 := h.at_ x hx
  rw [e, h.at_ y hy] at h1
  injection h1 with h1
  exact h1.symm
/-- A number laid into the head, or between a block's tags, moves no block. -/
theorem Stands.lay (h : Stands bs P) (q v : Nat) (hq : q + 8 ≤ 184 ∨ ∃ y ∈ P, y.off + 8 ≤ q ∧ q + 8 ≤ y.off + y.size - 8) (hl : 184 ≤ bs.length) : Stands (lyN bs q v) P := by
  have hqb : q + 8 ≤ bs.length := by
    rcases hq with hq | ⟨y, hy, h1, h2⟩
    · omega
    · have := h.facts hy; omega
  refine ⟨fun x hx => ?_, h.apart⟩
  have hf := h.facts hx
  refine getB_congr bs _ x (lyN_length _ _ _ hqb) (h.at_ x hx) (wordN_other _ _ _ _ hqb ?_) (wordN_other _ _ _ _ hqb ?_)
  · rcases hq with hq | ⟨y, hy, h1, h2⟩
    · omega
    · have hy' := h.facts hy
      rcases h.apart x hx y hy with rfl | h3 | h3
      · omega
      · omega
      · omega
  · rcases hq with hq | ⟨y, hy, h1, h2⟩
    · omega
    · have hy' := h.facts hy
      rcases h.apart x hx y hy with rfl | h3 | h3
      · omega
      · omega
      · omega
theorem Lists.member (h : Lists bs P L) {c o : Nat} (hc : c < 22) (ho : o ∈ L c) : memberB bs o (c : Int) = true ∧ ∃ x ∈ P, x.off = o ∧ x.used = false ∧ classI x.size = (c : Int) := by
  obtain ⟨x, hx, rfl, hu, hcl⟩ := h.mem c hc o ho
  have hf := h.st.facts hx
  have hs := h.small
  refine ⟨?_, x, hx, rfl, hu, hcl⟩
  unfold memberB
  rw [h.st.at_ x hx]
  simp [hu, hcl]
  omega
theorem allF_link (h : Lists bs P L) {c : Nat} (hc : c < 22) : ∀ (l : List Nat) (k p : Nat), (∀ o ∈ l, o ∈ L c) → l.length ≤ k → link bs p l 0 → allF bs c k p (l.headD 0) = some l
  | [], k, _, _, _, _ => by cases k <;> simp [allF]
  | o :: r, 0, _, _, hk, _ => by simp at hk
  | o :: r, k + 1, p, hm, hk, hl => by
    obtain ⟨l1, l2, l3⟩ := hl
    obtain ⟨m1, x, hx, rfl, _⟩ := h.member hc (hm o (by simp))
    have hf := h.st.facts hx
    have ih := allF_link h hc r k x.off (fun q hq => hm q (by simp [hq])) (by simpa using hk) l3
    show allF bs c (k + 1) p x.off = _
    unfold allF
    rw [if_neg (by omega)]
    dsimp only
    rw [if_pos ⟨m1, l1⟩, l2, ih]
    rfl
/-- All of a class are its list. -/
theorem Lists.all (h : Lists bs P L) {c : Nat} (hc : c < 22) (hl : (L c).length ≤ 1024) : allB bs c = some (L c) := by
  have hlen := h.len
  unfold allB
  rw [if_neg (by omega), h.head c hc, h.bit c hc]
  have e : (!(L c).isEmpty) = decide ((L c).headD 0 ≠ 0) := by
    cases hL : L c with
    | nil => rfl
    | cons o r =>
      obtain ⟨_, x, hx, e, _⟩ := h.member hc (o := o) (by rw [hL]; simp)
      have hf := h.st.facts hx
      have : o ≠ 0 := by omega
      simp [this]
  rw [if_neg (by rw [e]; simp)]
  exact allF_link h hc (L c) 1024 0 (fun _ h => h) hl (h.links c hc)
end

theorem wordN_ly (bs : List UInt8) (q v p : Nat) (h : q + 8 ≤ bs.length) (hv : v < 18446744073709551616) (hp : p % 8 = 0) (hq : q % 8 = 0) : wordN (lyN bs q v) p = if p = q then v else wordN bs p := by
  by_cases e : p = q
  · rw [if_pos e, e]; exact wordN_same bs q v h hv
  · rw [if_neg e]; exact wordN_other bs q v p h (by omega)
/-- What markB comes to. -/
theorem markB_spec (bs : List UInt8) (c : Nat) (hc : c < 22) (hl : 184 ≤ bs.length) :
    (markB bs c).length = bs.length ∧ (∀ p, p % 8 = 0 → p ≠ 0 → wordN (markB bs c) p = wordN bs p) ∧ (∀ d, bitN (wordN (markB bs c) 0) d = if d = c then decide (wordN bs (8 + 8 * c) ≠ 0) else bitN (wordN bs 0) d) ∧
    (∀ P, Stands bs P → Stands (markB bs c) P) ∧ ∀ i, 8 ≤ i → (markB bs c)[i]? = bs[i]? := by
  have hw := wordN_lt bs 0
  unfold markB
  by_cases h1 : bitN (wordN bs 0) c = true ∧ wordN bs (8 + 8 * c) = 0
  · rw [if_pos h1]
    have hv : wordN bs 0 - 2 ^ c < 18446744073709551616 := Nat.lt_of_le_of_lt (Nat.sub_le _ _) hw
    refine ⟨lyN_length _ _ _ (by omega), fun p hp h0 => ?_, fun d => ?_, fun P hP => hP.lay 0 _ (.inl (by omega)) hl, fun i hi => lyN_get _ _ _ _ (by omega) (by omega)⟩
    · rw [wordN_ly _ _ _ _ (by omega) hv hp rfl, if_neg h0]
    · rw [wordN_same _ _ _ (by omega) hv, bitN_sub _ _ h1.1, h1.2]
      simp
  · rw [if_neg h1]
    by_cases h2 : bitN (wordN bs 0) c = false ∧ wordN bs (8 + 8 * c) ≠ 0
    · rw [if_pos h2]
      have hv := bitN_lt (wordN bs 0) c (by omega) hw h2.1
      refine ⟨lyN_length _ _ _ (by omega), fun p hp h0 => ?_, fun d => ?_, fun P hP => hP.lay 0 _ (.inl (by omega)) hl, fun i hi => lyN_get _ _ _ _ (by omega) (by omega)⟩
      · rw [wordN_ly _ _ _ _ (by omega) hv hp rfl, if_neg h0]
      · rw [wordN_same _ _ _ (by omega) hv, bitN_add _ _ h2.1]
        simp [h2.2]
    · rw [if_neg h2]
      refine ⟨rfl, fun _ _ _ => rfl, fun d => ?_, fun P hP => hP, fun _ _ => rfl⟩
      by_cases hd : d = c
      · rw [if_pos hd, hd]
        cases hb : bitN (wordN bs 0) c with
        | true =>
          have : wordN bs (8 + 8 * c) ≠ 0 := fun e => h1 ⟨hb, e⟩
          simp [this]
        | false =>
          have : wordN bs (8 + 8 * c) = 0 := by
            rcases Nat.eq_zero_or_pos (wordN bs (8 + 8 * c)) with e | e
            · exact e
            · exact absurd ⟨hb, by omega⟩ h2
          simp [this]
      · rw [if_neg hd]
/-- All that isn't the head, nor a free block's numbers. -/
def Kept (P : List Bk) (bs bs' : List UInt8) : Prop := ∀ i, 184 ≤ i → (∀ y ∈ P, y.used = false → i < y.off + 8 ∨ y.off + 24 ≤ i) → bs'[i]? = bs[i]?
theorem Kept.refl (P : List Bk) (bs : List UInt8) : Kept P bs bs := fun _ _ _ => rfl
theorem Kept.trans {P : List Bk} {b1 b2 b3 : List UInt8} (h : Kept P b1 b2) (k : Kept P b2 b3) : Kept P b1 b3 := fun i h1 h2 => (k i h1 h2).trans (h i h1 h2)
theorem Kept.ly (P : List Bk) (bs : List UInt8) (q v : Nat) (h : q + 8 ≤ bs.length) (hq : q + 8 ≤ 184 ∨ ∃ y ∈ P, y.used = false ∧ (q = y.off + 8 ∨ q = y.off + 16)) : Kept P bs (lyN bs q v) := fun i h1 h2 => by
  refine lyN_get _ _ _ _ h ?_
  rcases hq with hq | ⟨y, hy, hu, hq⟩
  · omega
  · have := h2 y hy hu
    omega
/-- The lists with one of them another. -/
def setL (L : Nat → List Nat) (c : Nat) (l : List Nat) (d : Nat) : List Nat := if d = c then l else L d

section
variable {bs : List UInt8} {P : List Bk} {L : Nat → List Nat}
theorem class_nat {x : Bk} (hs : isSz (x.size : Int) = true) : ∃ c : Nat, classI (x.size : Int) = (c : Int) ∧ c < 22 := by
  have h1 := classI_bounds (x.size : Int)
  have h2 : ¬ classI (x.size : Int) < 0 := by rw [classI_neg]; simp [hs]
  exact ⟨(classI (x.size : Int)).toNat, by omega, by omega⟩
theorem Lists.off8 (h : Lists bs P L) {x : Bk} (hx : x ∈ P) : (x.off + 8) % 8 = 0 ∧ (x.off + 16) % 8 = 0 := by
  have := h.st.facts hx; omega
theorem Lists.put (h : Lists bs P L) {x : Bk} (hx : x ∈ P) (hu : x.used = false) {c : Nat} (hc : classI (x.size : Int) = (c : Int)) (hc22 : c < 22) (hn : x.off ∉ L c) :
    ∃ bs', putB bs (x.off : Int) = some bs' ∧ Lists bs' P (setL L c (x.off :: L c)) ∧ bs'.length = bs.length ∧ Kept P bs bs' := by
  have hf := h.st.facts hx
  have hlen := h.len
  have hsm := h.small
  have hfr : freeI bs (x.off : Int) = (c : Int) := by unfold freeI; rw [h.st.at_ x hx]; simp [hu, hc]
  have hhead := h.head c hc22
  obtain ⟨f, hfe⟩ : ∃ f, wordN bs (8 + 8 * c) = f := ⟨_, rfl⟩
  have hflt : f < 18446744073709551616 := by rw [← hfe]; exact wordN_lt _ _
  rw [hfe] at hhead
  -- what the first one is
  have hcase : (L c = [] ∧ f = 0) ∨ ∃ y ∈ P, ∃ r, L c = f :: r ∧ y.off = f ∧ y.used = false ∧ memberB bs f (c : Int) = true := by
    cases hL : L c with
    | nil => left; rw [hL] at hhead; exact ⟨rfl, hhead⟩
    | cons o r =>
      right
      rw [hL] at hhead
      obtain rfl : f = o := hhead
      obtain ⟨m1, y, hy, e, yu, _⟩ := h.member hc22 (o := f) (by rw [hL]; simp)
      exact ⟨y, hy, r, rfl, e, yu, m1⟩
  have hput : putB bs (x.off : Int) = some (markB (lyN (if f ≠ 0 then lyN (lyN (lyN bs (x.off + 8) f) (x.off + 16) 0) (f + 16) x.off else lyN (lyN bs (x.off + 8) f) (x.off + 16) 0) (8 + 8 * c) x.off) c) := by
    unfold putB
    rw [hfr, if_neg (by omega)]
    simp only [Int.toNat_natCast, hfe]
    rw [if_neg]
    rintro (e | ⟨e1, e2⟩)
    · rcases hcase with ⟨_, e0⟩ | ⟨y, hy, r, hL, _⟩
      · omega
      · exact hn (by rw [hL, show x.off = f by omega]; simp)
    · rcases hcase with ⟨_, e0⟩ | ⟨y, hy, r, hL, _, _, m⟩
      · exact e1 e0
      · rw [m] at e2; cases e2
  obtain ⟨b1, hb1⟩ : ∃ b1, lyN (lyN bs (x.off + 8) f) (x.off + 16) 0 = b1 := ⟨_, rfl⟩
  have l0 : (lyN bs (x.off + 8) f).length = bs.length := lyN_length _ _ _ (by omega)
  have l1 : b1.length = bs.length := by rw [← hb1, lyN_length _ _ _ (by omega)]; exact l0
  have st1 : Stands b1 P := by
    rw [← hb1]
    exact (h.st.lay (x.off + 8) f (.inr ⟨x, hx, by omega, by omega⟩) hlen).lay _ _ (.inr ⟨x, hx, by omega, by omega⟩) (by omega)
  have w1 : ∀ p, p % 8 = 0 → wordN b1 p = if p = x.off + 16 then 0 else if p = x.off + 8 then f else wordN bs p := fun p hp => by
    rw [← hb1, wordN_ly _ _ _ _ (by omega) (by omega) hp (by omega), wordN_ly _ _ _ _ (by omega) hflt hp (by omega)]
  have k1 : Kept P bs b1 := by
    rw [← hb1]
    exact (Kept.ly P bs _ _ (by omega) (.inr ⟨x, hx, hu, .inl rfl⟩)).trans (Kept.ly P _ _ _ (by omega) (.inr ⟨x, hx, hu, .inr rfl⟩))
  rw [hb1] at hput
  obtain ⟨b2, hb2⟩ : ∃ b2, (if f ≠ 0 then lyN b1 (f + 16) x.off else b1) = b2 := ⟨_, rfl⟩
  have hb2f : b2.length = bs.length ∧ Stands b2 P ∧ (∀ p, p % 8 = 0 → wordN b2 p = if f ≠ 0 ∧ p = f + 16 then x.off else wordN b1 p) ∧ Kept P b1 b2 := by
    rcases hcase with ⟨_, e0⟩ | ⟨y, hy, r, hL, hyf, hyu, _⟩
    · rw [if_neg (by omega)] at hb2
      subst hb2
      exact ⟨l1, st1, fun p _ => by rw [if_neg (by omega)], Kept.refl _ _⟩
    · have hy' := h.st.facts hy
      rw [if_pos (by omega)] at hb2
      subst hb2
      refine ⟨by rw [lyN_length _ _ _ (by omega)]; exact l1, st1.lay _ _ (.inr ⟨y, hy, by omega, by omega⟩) (by omega), fun p hp => ?_, Kept.ly P _ _ _ (by omega) (.inr ⟨y, hy, hyu, .inr (by omega)⟩)⟩
      rw [wordN_ly _ _ _ _ (by omega) (by omega) hp (by omega)]
      by_cases e : p = f + 16
      · rw [if_pos e, if_pos ⟨by omega, e⟩]
      · rw [if_neg e, if_neg (fun h => e h.2)]
  obtain ⟨l2, st2, w2, k2⟩ := hb2f
  rw [hb2] at hput
  obtain ⟨b3, hb3⟩ : ∃ b3, lyN b2 (8 + 8 * c) x.off = b3 := ⟨_, rfl⟩
  have l3 : b3.length = bs.length := by rw [← hb3, lyN_length _ _ _ (by omega)]; exact l2
  have st3 : Stands b3 P := by rw [← hb3]; exact st2.lay _ _ (.inl (by omega)) (by omega)
  have w3 : ∀ p, p % 8 = 0 → wordN b3 p = if p = 8 + 8 * c then x.off else wordN b2 p := fun p hp => by
    rw [← hb3, wordN_ly _ _ _ _ (by omega) (by omega) hp (by omega)]
  have k3 : Kept P b2 b3 := by rw [← hb3]; exact Kept.ly P _ _ _ (by omega) (.inl (by omega))
  rw [hb3] at hput
  obtain ⟨m1, m2, m3, m4, m5⟩ := markB_spec b3 c hc22 (by omega)
  refine ⟨_, hput, ⟨by omega, by omega, m4 P st3, fun d hd => ?_, fun d hd => ?_, fun d hd o ho => ?_, fun d hd => ?_, fun d hd => ?_⟩, by omega, ((k1.trans k2).trans k3).trans fun i h1 _ => m5 i (by omega)⟩
  · -- the first of each class
    rw [m2 _ (by omega) (by omega), w3 _ (by omega)]
    unfold setL
    by_cases hdc : d = c
    · rw [if_pos (by omega), if_pos hdc]; rfl
    · rw [if_neg (by omega), if_neg hdc, w2 _ (by omega), ← h.head d hd]
      have hn1 : ¬ (f ≠ 0 ∧ 8 + 8 * d = f + 16) := by
        rintro ⟨h1, h2⟩
        rcases hcase with ⟨_, e0⟩ | ⟨y, hy, _, _, hyf, _⟩
        · exact h1 e0
        · have := h.st.facts hy; omega
      rw [if_neg hn1, w1 _ (by omega), if_neg (by omega), if_neg (by omega)]
  · -- the bits
    rw [m3 d]
    unfold setL
    by_cases hdc : d = c
    · rw [if_pos hdc, if_pos hdc, w3 _ (by omega), if_pos rfl]
      have : x.off ≠ 0 := by omega
      simp [this]
    · rw [if_neg hdc, if_neg hdc, ← h.bit d hd, w3 _ rfl, if_neg (by omega), w2 _ rfl]
      have hn1 : ¬ (f ≠ 0 ∧ 0 = f + 16) := by omega
      rw [if_neg hn1, w1 _ rfl, if_neg (by omega), if_neg (by omega)]
  · -- the members
    unfold setL at ho
    by_cases hdc : d = c
    · subst hdc
      rw [if_pos rfl] at ho
      rcases List.mem_cons.1 ho with rfl | ho
      · exact ⟨x, hx, rfl, hu, hc⟩
      · exact h.mem d hd o ho
    · rw [if_neg hdc] at ho
      exact h.mem d hd o ho
  · -- the links
    have hw : ∀ o, (∃ y ∈ P, y.off = o ∧ o ≠ x.off) → ∀ k, k = 8 ∨ k = 16 → wordN (markB b3 c) (o + k) = if f ≠ 0 ∧ o = f ∧ k = 16 then x.off else wordN bs (o + k) := by
      rintro o ⟨y, hy, rfl, hne⟩ k hk
      have hy' := h.st.facts hy
      have hap := h.st.apart x hx y hy
      have hne2 : y.off + k ≠ x.off + 8 ∧ y.off + k ≠ x.off + 16 := by
        rcases hap with e | e | e
        · rw [e] at hne; exact absurd rfl hne
        · omega
        · omega
      rw [m2 _ (by omega) (by omega), w3 _ (by omega), if_neg (by omega), w2 _ (by omega), w1 _ (by omega), if_neg hne2.2, if_neg hne2.1]
      by_cases e : f ≠ 0 ∧ y.off = f ∧ k = 16
      · rw [if_pos e, if_pos ⟨e.1, by omega⟩]
      · rw [if_neg e, if_neg]
        rintro ⟨e1, e2⟩
        rcases hcase with ⟨_, e0⟩ | ⟨z, hz, r, hL, hzf, _⟩
        · exact e1 e0
        · have hz' := h.st.facts hz
          refine e ⟨e1, ?_, ?_⟩
          · omega
          · omega
    unfold setL
    by_cases hdc : d = c
    · subst hdc
      rw [if_pos rfl]
      refine ⟨?_, ?_, ?_⟩
      · rw [m2 _ (by omega) (by omega), w3 _ (by omega), if_neg (by omega), w2 _ (by omega)]
        rw [if_neg (by
          rintro ⟨e1, e2⟩
          rcases hcase with ⟨_, e0⟩ | ⟨z, hz, r, hL, hzf, _⟩
          · exact e1 e0
          · exact hn (by rw [hL, show x.off = f by omega]; simp)), w1 _ (by omega), if_pos rfl]
      · rw [m2 _ (by omega) (by omega), w3 _ (by omega), if_neg (by omega), w2 _ (by omega)]
        rw [if_neg (by
          rintro ⟨e1, e2⟩
          rcases hcase with ⟨_, e0⟩ | ⟨z, hz, r, hL, hzf, _⟩
          · exact e1 e0
          · have hz' := h.st.facts hz
            have hap := h.st.apart x hx z hz
            rcases hap with e | e | e
            · rw [e] at e2; omega
            · omega
            · omega), w1 _ (by omega), if_neg (by omega), if_pos rfl]
        rw [hhead]
      · have hl := h.links d hd
        cases hL : L d with
        | nil => trivial
        | cons o r =>
          rw [hL] at hl hhead
          obtain rfl : f = o := hhead
          obtain ⟨_, l2', l3'⟩ := hl
          have hof : ∃ y ∈ P, y.off = f ∧ f ≠ x.off := by
            obtain ⟨y, hy, e, _⟩ := h.mem d hd f (by rw [hL]; simp)
            exact ⟨y, hy, e, fun e2 => hn (by rw [hL, e2]; simp)⟩
          have hf0 : f ≠ 0 := by
            obtain ⟨y, hy, e, _⟩ := hof
            have := h.st.facts hy; omega
          refine ⟨?_, ?_, ?_⟩
          · rw [hw f hof 16 (.inr rfl), if_pos ⟨hf0, rfl, rfl⟩]
          · rw [hw f hof 8 (.inl rfl), if_neg (by omega)]; exact l2'
          · refine link_congr r _ _ (fun q hq => ?_) l3'
            have hnd := h.nodup d hd
            rw [hL] at hnd
            have hqf : q ≠ f := fun e => (List.nodup_cons.1 hnd).1 (e ▸ hq)
            have hqo : ∃ y ∈ P, y.off = q ∧ q ≠ x.off := by
              obtain ⟨y, hy, e, _⟩ := h.mem d hd q (by rw [hL]; simp [hq])
              exact ⟨y, hy, e, fun e2 => hn (by rw [hL, ← e2]; simp [hq])⟩
            rw [hw q hqo 16 (.inr rfl), hw q hqo 8 (.inl rfl), if_neg (by omega), if_neg (by omega)]
            exact ⟨rfl, rfl⟩
    · rw [if_neg hdc]
      refine link_congr (L d) _ _ (fun q hq => ?_) (h.links d hd)
      obtain ⟨y, hy, e, _, hcl⟩ := h.mem d hd q hq
      have hqx : q ≠ x.off := fun e2 => by
        have := h.st.uniq hy hx (by omega)
        subst this
        rw [hc] at hcl; omega
      have hqf : ¬ (f ≠ 0 ∧ q = f ∧ (16 : Nat) = 16) := by
        rintro ⟨e1, e2, _⟩
        rcases hcase with ⟨_, e0⟩ | ⟨z, hz, r, hL, hzf, _⟩
        · exact e1 e0
        · obtain ⟨z2, hz2, e3, _, hcl2⟩ := h.mem c hc22 f (by rw [hL]; simp)
          have := h.st.uniq hy hz2 (by omega)
          subst this
          rw [hcl] at hcl2; omega
      rw [hw q ⟨y, hy, e, hqx⟩ 16 (.inr rfl), hw q ⟨y, hy, e, hqx⟩ 8 (.inl rfl), if_neg hqf, if_neg (by omega)]
      exact ⟨rfl, rfl⟩
  · unfold setL
    by_cases hdc : d = c
    · subst hdc
      rw [if_pos rfl]
      exact List.nodup_cons.2 ⟨hn, h.nodup d hd⟩
    · rw [if_neg hdc]; exact h.nodup d hd
end
end Go.Proofs.Ytdhlfhpgfdpjbaa

/- One bit of a number: and, or, and not; what marks a class. No program in sight. -/
namespace Go.Proofs.Ytdhlfhpgfdpjbaa

theorem bitN_test (w c : Nat) : bitN w c = w.testBit c := by
  unfold bitN
  rw [Nat.testBit_eq_decide_div_mod_eq, Bool.eq_iff_iff, beq_iff_eq, decide_eq_true_eq]
theorem pow22 (c : Nat) (hc : c < 22) : 2 ^ c ≤ 2097152 := Nat.pow_le_pow_right (n := 2) (by decide) (show c ≤ 21 by omega)
/-- A number with one of its bits so. -/
def bitTo (v c : Nat) (b : Bool) : Nat := if b then (if bitN v c then v else v + 2 ^ c) else (if bitN v c then v - 2 ^ c else v)
theorem bitTo_lt (v c : Nat) (hc : c < 22) (hv : v < 18446744073709551616) (b : Bool) : bitTo v c b < 18446744073709551616 := by
  unfold bitTo
  cases hb : bitN v c with
  | true =>
    have := Nat.sub_le v (2 ^ c)
    cases b <;> simp <;> omega
  | false =>
    have := bitN_lt v c (by omega) hv hb
    cases b <;> simp <;> omega
theorem bitTo_off (v c : Nat) : bitN (bitTo v c false) c = false := by
  unfold bitTo
  cases hb : bitN v c with
  | true => simpa using bitN_sub_c v c hb
  | false => simpa using hb
theorem bitTo_on (v c : Nat) : bitTo v c true = bitTo v c false + 2 ^ c := by
  unfold bitTo
  cases hb : bitN v c with
  | true =>
    have := bitN_ge v c hb
    simp
    omega
  | false => simp
theorem and_bit (v c : Nat) (hv : v < 18446744073709551616) (hc : c < 22) : (bits .and .u64 (v : Int) ((2 ^ c : Nat) : Int) != 0) = bitN v c := by
  have hp : 0 < 2 ^ c := Nat.two_pow_pos c
  rw [u64_and_nat v (2 ^ c) hv (by have := pow22 c hc; omega), nat_bit]
  unfold bitN
  have h : v / 2 ^ c % 2 = 0 ∨ v / 2 ^ c % 2 = 1 := by omega
  rcases h with h | h
  · rw [h]; simp
  · rw [h, Nat.one_mul, Bool.eq_iff_iff, bne_iff_ne]
    simp only [beq_self_eq_true, iff_true]
    omega
theorem andnot_bit (v c : Nat) (hv : v < 18446744073709551616) (hc : c < 22) : bits .andNot .u64 (v : Int) ((2 ^ c : Nat) : Int) = (bitTo v c false : Int) := by
  have h22 := pow22 c hc
  rw [u64_andNot_nat v (2 ^ c) hv (by omega)]
  refine congrArg Int.ofNat (Nat.eq_of_testBit_eq fun d => ?_)
  have e : 18446744073709551615 - 2 ^ c = 2 ^ 64 - (2 ^ c + 1) := by omega
  rw [Nat.testBit_and, e, Nat.testBit_two_pow_sub_succ (by omega), Nat.testBit_two_pow]
  unfold bitTo
  have hbig : 64 ≤ d → v.testBit d = false := fun h => Nat.testBit_lt_two_pow (Nat.lt_of_lt_of_le hv (Nat.pow_le_pow_right (n := 2) (by decide) h))
  cases hb : bitN v c with
  | true =>
    have h2 := bitN_sub v c hb d
    rw [bitN_test, bitN_test] at h2
    simp only [if_true, Bool.false_eq_true, if_false]
    rw [h2]
    by_cases hd : d = c
    · rw [if_pos hd, hd]; simp
    · rw [if_neg hd]
      by_cases h64 : d < 64
      · simp [h64, Ne.symm hd]
      · rw [hbig (by omega)]; simp
  | false =>
    simp only [Bool.false_eq_true, if_false]
    by_cases hd : d = c
    · rw [bitN_test] at hb
      rw [hd, hb]; simp
    · by_cases h64 : d < 64
      · simp [h64, Ne.symm hd]
      · rw [hbig (by omega)]; simp
theorem or_bit (v c : Nat) (hv : v < 18446744073709551616) (hc : c < 22) (hb : bitN v c = false) : bits .or .u64 (v : Int) ((2 ^ c : Nat) : Int) = ((v + 2 ^ c : Nat) : Int) := by
  have h22 := pow22 c hc
  rw [u64_or_nat v (2 ^ c) hv (by omega)]
  refine congrArg Int.ofNat (Nat.eq_of_testBit_eq fun d => ?_)
  have h2 := bitN_add v c hb d
  rw [bitN_test, bitN_test] at h2
  rw [Nat.testBit_or, Nat.testBit_two_pow, h2]
  by_cases hd : d = c
  · rw [if_pos hd, hd]; simp
  · rw [if_neg hd]; simp [Ne.symm hd]
theorem lyN_self (bs : List UInt8) (o : Nat) (h : o + 8 ≤ bs.length) : lyN bs o (wordN bs o) = bs := by
  have e : lowB 8 (numB ((bs.drop o).take 8)) = (bs.drop o).take 8 := by
    have := lowB_numB ((bs.drop o).take 8)
    rwa [List.length_take, List.length_drop, Nat.min_eq_left (by omega)] at this
  unfold lyN wordN
  rw [e, ← List.drop_drop, List.take_append_drop, List.take_append_drop]
/-- What marks a class, all at once. -/
theorem markB_eq (bs : List UInt8) (c : Nat) (hl : 8 ≤ bs.length) : markB bs c = lyN bs 0 (bitTo (wordN bs 0) c (decide (wordN bs (8 + 8 * c) ≠ 0))) := by
  have hs := lyN_self bs 0 (by omega)
  unfold markB bitTo
  by_cases h0 : wordN bs (8 + 8 * c) = 0
  · cases hb : bitN (wordN bs 0) c <;> simp [h0, hs]
  · cases hb : bitN (wordN bs 0) c <;> simp [h0, hs]
/-- A member, by the class of what stands there. -/
theorem memberB_free (bs : List UInt8) (p c : Nat) : memberB bs p (c : Int) = (decide (p ≤ 20000) && (freeI bs (p : Int) == (c : Int))) := by
  unfold memberB freeI
  congr 1
  cases hg : getB bs (p : Int) with
  | none => simp
  | some x =>
    cases hu : x.used with
    | true => simp [hu]
    | false => simp [hu]
/-- Has a member this number there? -/
def memHas (bs : List UInt8) (c v k u : Nat) : Bool := memberB bs v (c : Int) && (wordN bs (v + k) == u)
theorem memberB_in {bs : List UInt8} {p c : Nat} (h : memberB bs p (c : Int) = true) : 184 ≤ p ∧ p + 32 ≤ bs.length := by
  unfold memberB at h
  cases hg : getB bs (p : Int) with
  | none => rw [hg] at h; simp at h
  | some y =>
    obtain ⟨r1, r2, _, r3, r4, _⟩ := getB_some hg
    have := (isSz_iff _).1 r4
    omega
theorem freeI_in {bs : List UInt8} {o : Int} {c : Nat} (h : freeI bs o = (c : Int)) : 184 ≤ o ∧ o + 32 ≤ bs.length ∧ c < 22 := by
  unfold freeI at h
  cases hg : getB bs o with
  | none => rw [hg] at h; dsimp only at h; omega
  | some y =>
    obtain ⟨r1, r2, _, r3, r4, _⟩ := getB_some hg
    have := (isSz_iff _).1 r4
    obtain ⟨d, hd, hd2⟩ := class_nat r4
    rw [hg] at h
    dsimp only at h
    split at h <;> omega
theorem freeI_cases (bs : List UInt8) (o : Int) : freeI bs o < 0 ∨ ∃ c : Nat, freeI bs o = (c : Int) := by
  by_cases h : freeI bs o < 0
  · exact .inl h
  · exact .inr ⟨(freeI bs o).toNat, by omega⟩
end Go.Proofs.Ytdhlfhpgfdpjbaa
