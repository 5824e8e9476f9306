/- Texts of mine, joined: Tag1, BitM, ListM2, CheckM2, HpM, HpM2, HpM3, Law08, Cls1, Blk1, Blk2, Blk3. -/
import Derived.Laws.BitsAllLaws
import Derived.Lib.Strings
import Derived.Lib.Slices
import Derived.Lib.Small
import Derived.Lib.Walk
import Derived.Lib.BitFns
import Derived.Test.YtbldlidpapdkbaaGreatM4

/- The contracts of the program's tags: isSize, Pack, Unpack; the head of the laws of layer 6. -/
namespace Go.Proofs.YtbldlidpapdkbaaGreat
open Go.RowKit

theorem andnot_one (v : Nat) (hv : v ≤ 16385) : wrap64 (bits .andNot .u64 (v : Int) 1) = ((v - v % 2 : Nat) : Int) := by
  have h : bits .andNot .u64 (v : Int) ((1 : Nat) : Int) = ((v &&& (18446744073709551615 - 1) : Nat) : Int) := by
    have hx : v &&& (18446744073709551615 - 1) < 2 ^ 64 := Nat.and_lt_two_pow _ (by omega)
    show IntKind.u64.wrap ((BitVec.ofInt 64 (v : Int) &&& ~~~BitVec.ofInt 64 ((1 : Nat) : Int)).toNat : Int) = _
    rw [BitVec.toNat_and, BitVec.toNat_not, ofInt_u64 v (by omega), ofInt_u64 1 (by omega), IntKind.wrap_u64]
    have e : 2 ^ 64 - 1 - 1 = 18446744073709551615 - 1 := by omega
    rw [e]
    omega
  have h2 : v &&& (18446744073709551615 - 1) = v - v % 2 := by
    rw [nat_hi64_1, Nat.mod_eq_of_lt (by omega)]
    omega
  have h3 : bits .andNot .u64 (v : Int) 1 = ((v - v % 2 : Nat) : Int) := by rw [← h2]; exact h
  rw [h3]
  have h4 := Nat.sub_le v (v % 2)
  unfold wrap64
  omega
theorem and_one (v : Nat) (hv : v < 18446744073709551616) : (bits .and .u64 (v : Int) 1 == 1) = (v % 2 == 1) := by
  have h : bits .and .u64 (v : Int) 1 = ((v &&& 1 : Nat) : Int) := u64_and_nat v 1 hv (by omega)
  rw [h, Nat.and_one_is_mod, Bool.eq_iff_iff, beq_iff_eq, beq_iff_eq]
  omega

section
variable (w : World)
set_option maxHeartbeats 400000 in
theorem tissize_any (n : Int) (hn : -9223372036854775808 ≤ n ∧ n ≤ 9223372036854775807) (b : Bool) (hb : isSz n = b) :
    Calls Tryz.prog 97 #[.int .i64 n] w fun e w' => e = .returned (.bool b) ∧ w = w' := by
  by_cases h1 : 32 ≤ n
  · by_cases h2 : n ≤ 16384
    · have e : (n % 16 == 0) = b := by rw [← hb]; simp [isSz, h1, h2]
      have HE := Lib.hid e
      clear hb e
      go_enter Tryz.func97, Tryz.ntmps97
      go_wp2
      go_ret
      exact ⟨rt_b HE.out, rfl⟩
    · obtain rfl : false = b := by rw [← hb]; simp [isSz, h2]
      clear hb
      go_enter Tryz.func97, Tryz.ntmps97
      go_wp2
      go_ret
      exact ⟨rfl, rfl⟩
  · obtain rfl : false = b := by rw [← hb]; simp [isSz, h1]
    clear hb
    go_enter Tryz.func97, Tryz.ntmps97
    go_wp2
    go_ret
    exact ⟨rfl, rfl⟩

set_option maxHeartbeats 400000 in
theorem tpack_any (s : Int) (u : Bool) (hs : -9223372036854775808 ≤ s ∧ s ≤ 9223372036854775807) (m : Nat) (hm : packN s u = m) :
    Calls Tryz.prog 91 #[.int .i64 s, .bool u] w fun e w' => e = .returned (.int .u64 (m : Int)) ∧ w = w' := by
  cases hb : isSz s
  · obtain rfl : 0 = m := by rw [← hm]; simp [packN, hb]
    have HI := Lib.hid (tissize_any w s hs false hb)
    clear hm hb
    go_enter Tryz.func91, Tryz.ntmps91
    go_wp2_with fail
    with_reducible refine HI.out.mono ?_
    rintro e w1 ⟨rfl, rfl⟩
    go_wp2
    go_ret
    exact ⟨rfl, rfl⟩
  · have h := (isSz_iff s).1 hb
    have HI := Lib.hid (tissize_any w s hs true hb)
    obtain ⟨n, rfl⟩ : ∃ n : Nat, s = (n : Int) := ⟨s.toNat, by omega⟩
    have hn : n ≤ 16384 := by omega
    have HM : Hid (n + (if u = true then 1 else 0) = m) := (show _ = _ by rw [← hm]; simp [packN, hb])
    clear hm hb h
    cases u
    · go_enter Tryz.func91, Tryz.ntmps91
      go_wp2_with fail
      with_reducible refine HI.out.mono ?_
      rintro e w1 ⟨rfl, rfl⟩
      go_wp2
      go_ret
      exact ⟨rt_i (by have := HM.out; simp at this; omega), rfl⟩
    · go_enter Tryz.func91, Tryz.ntmps91
      go_wp2_with fail
      with_reducible refine HI.out.mono ?_
      rintro e w1 ⟨rfl, rfl⟩
      go_wp2
      go_ret
      exact ⟨rt_i (by have := HM.out; simp at this; omega), rfl⟩

set_option maxHeartbeats 400000 in
theorem tunpack_any (v : Nat) (hv : v < 18446744073709551616) :
    Calls Tryz.prog 78 #[.int .u64 (v : Int)] w fun e w' => e = .returned (unpV (unpN v)) ∧ w = w' := by
  by_cases h0 : 16385 < v
  · have e : unpN v = none := by
      unfold unpN
      rw [if_neg]
      rintro ⟨_, h⟩
      have := (isSz_iff _).1 h
      omega
    rw [e]
    clear e
    go_enter Tryz.func78, Tryz.ntmps78
    go_wp2
    go_ret3
    exact ⟨rfl, rfl⟩
  · obtain ⟨s, hs⟩ : ∃ s : Nat, v - v % 2 = s := ⟨_, rfl⟩
    have hs2 : wrap64 (bits .andNot .u64 (v : Int) 1) = (s : Int) := by rw [andnot_one v (by omega), hs]
    cases hb : isSz (s : Int)
    · have e : unpN v = none := by unfold unpN; rw [hs, if_neg (by simp [hb])]
      rw [e]
      have HI := Lib.hid (tissize_any w (s : Int) (by have := Nat.sub_le v (v % 2); omega) false hb)
      have HS := Lib.hid hs2
      clear e hs hb hs2
      go_enter Tryz.func78, Tryz.ntmps78
      go_wp2_with fail
      rw [HS.out]
      with_reducible refine HI.out.mono ?_
      rintro e w1 ⟨rfl, rfl⟩
      go_wp2
      go_ret3
      exact ⟨rfl, rfl⟩
    · have e : unpN v = some (s, v % 2 == 1) := by unfold unpN; rw [hs, if_pos ⟨by omega, hb⟩]
      rw [e]
      have HI := Lib.hid (tissize_any w (s : Int) (by have := Nat.sub_le v (v % 2); omega) true hb)
      have HS := Lib.hid hs2
      have HB := Lib.hid (and_one v hv)
      clear e hs hb hs2
      go_enter Tryz.func78, Tryz.ntmps78
      go_wp2_with fail
      rw [HS.out]
      with_reducible refine HI.out.mono ?_
      rintro e w1 ⟨rfl, rfl⟩
      go_wp2
      go_ret3
      refine ⟨?_, rfl⟩
      rw [← HB.out]
      rfl

end
end Go.Proofs.YtbldlidpapdkbaaGreat

/- One bit of a number: and, or, and not; what marks a class. No program in sight. -/
namespace Go.Proofs.YtbldlidpapdkbaaGreat

theorem bitN_test (w c : Nat) : bitN w c = w.testBit c := by
  unfold bitN
  rw [Nat.testBit_eq_decide_div_mod_eq, Bool.eq_iff_iff, beq_iff_eq, decide_eq_true_eq]
theorem pow22 (c : Nat) (hc : c < 22) : 2 ^ c ≤ 2097152 := Nat.pow_le_pow_right (n := 2) (by decide) (show c ≤ 21 by omega)
/-- A number with one of its bits so. -/
def bitTo (v c : Nat) (b : Bool) : Nat := if b then (if bitN v c then v else v + 2 ^ c) else (if bitN v c then v - 2 ^ c else v)
theorem bitTo_lt (v c : Nat) (hc : c < 22) (hv : v < 18446744073709551616) (b : Bool) : bitTo v c b < 18446744073709551616 := by
  unfold bitTo
  cases hb : bitN v c with
  | true =>
    have := Nat.sub_le v (2 ^ c)
    cases b <;> simp <;> omega
  | false =>
    have := bitN_lt v c (by omega) hv hb
    cases b <;> simp <;> omega
theorem bitTo_off (v c : Nat) : bitN (bitTo v c false) c = false := by
  unfold bitTo
  cases hb : bitN v c with
  | true => simpa using bitN_sub_c v c hb
  | false => simpa using hb
theorem bitTo_on (v c : Nat) : bitTo v c true = bitTo v c false + 2 ^ c := by
  unfold bitTo
  cases hb : bitN v c with
  | true =>
    have := bitN_ge v c hb
    simp
    omega
  | false => simp
theorem and_bit (v c : Nat) (hv : v < 18446744073709551616) (hc : c < 22) : (bits .and .u64 (v : Int) ((2 ^ c : Nat) : Int) != 0) = bitN v c := by
  have hp : 0 < 2 ^ c := Nat.two_pow_pos c
  rw [u64_and_nat v (2 ^ c) hv (by have := pow22 c hc; omega), nat_bit]
  unfold bitN
  have h : v / 2 ^ c % 2 = 0 ∨ v / 2 ^ c % 2 = 1 := by omega
  rcases h with h | h
  · rw [h]; simp
  · rw [h, Nat.one_mul, Bool.eq_iff_iff, bne_iff_ne]
    simp only [beq_self_eq_true, iff_true]
    omega
theorem andnot_bit (v c : Nat) (hv : v < 18446744073709551616) (hc : c < 22) : bits .andNot .u64 (v : Int) ((2 ^ c : Nat) : Int) = (bitTo v c false : Int) := by
  have h22 := pow22 c hc
  rw [u64_andNot_nat v (2 ^ c) hv (by omega)]
  refine congrArg Int.ofNat (Nat.eq_of_testBit_eq fun d => ?_)
  have e : 18446744073709551615 - 2 ^ c = 2 ^ 64 - (2 ^ c + 1) := by omega
  rw [Nat.testBit_and, e, Nat.testBit_two_pow_sub_succ (by omega), Nat.testBit_two_pow]
  unfold bitTo
  have hbig : 64 ≤ d → v.testBit d = false := fun h => Nat.testBit_lt_two_pow (Nat.lt_of_lt_of_le hv (Nat.pow_le_pow_right (n := 2) (by decide) h))
  cases hb : bitN v c with
  | true =>
    have h2 := bitN_sub v c hb d
    rw [bitN_test, bitN_test] at h2
    simp only [if_true, Bool.false_eq_true, if_false]
    rw [h2]
    by_cases hd : d = c
    · rw [if_pos hd, hd]; simp
    · rw [if_neg hd]
      by_cases h64 : d < 64
      · simp [h64, Ne.symm hd]
      · rw [hbig (by omega)]; simp
  | false =>
    simp only [Bool.false_eq_true, if_false]
    by_cases hd : d = c
    · rw [bitN_test] at hb
      rw [hd, hb]; simp
    · by_cases h64 : d < 64
      · simp [h64, Ne.symm hd]
      · rw [hbig (by omega)]; simp
theorem or_bit (v c : Nat) (hv : v < 18446744073709551616) (hc : c < 22) (hb : bitN v c = false) : bits .or .u64 (v : Int) ((2 ^ c : Nat) : Int) = ((v + 2 ^ c : Nat) : Int) := by
  have h22 := pow22 c hc
  rw [u64_or_nat v (2 ^ c) hv (by omega)]
  refine congrArg Int.ofNat (Nat.eq_of_testBit_eq fun d => ?_)
  have h2 := bitN_add v c hb d
  rw [bitN_test, bitN_test] at h2
  rw [Nat.testBit_or, Nat.testBit_two_pow, h2]
  by_cases hd : d = c
  · rw [if_pos hd, hd]; simp
  · rw [if_neg hd]; simp [Ne.symm hd]
theorem lyN_self (bs : List UInt8) (o : Nat) (h : o + 8 ≤ bs.length) : lyN bs o (wordN bs o) = bs := by
  have e : lowB 8 (numB ((bs.drop o).take 8)) = (bs.drop o).take 8 := by
    have := lowB_numB ((bs.drop o).take 8)
    rwa [List.length_take, List.length_drop, Nat.min_eq_left (by omega)] at this
  unfold lyN wordN
  rw [e, ← List.drop_drop, List.take_append_drop, List.take_append_drop]
/-- What marks a class, all at once. -/
theorem markB_eq (bs : List UInt8) (c : Nat) (hl : 8 ≤ bs.length) : markB bs c = lyN bs 0 (bitTo (wordN bs 0) c (decide (wordN bs (8 + 8 * c) ≠ 0))) := by
  have hs := lyN_self bs 0 (by omega)
  unfold markB bitTo
  by_cases h0 : wordN bs (8 + 8 * c) = 0
  · cases hb : bitN (wordN bs 0) c <;> simp [h0, hs]
  · cases hb : bitN (wordN bs 0) c <;> simp [h0, hs]
/-- A member, by the class of what stands there. -/
theorem memberB_free (bs : List UInt8) (p c : Nat) : memberB bs p (c : Int) = (decide (p ≤ 20000) && (freeI bs (p : Int) == (c : Int))) := by
  unfold memberB freeI
  congr 1
  cases hg : getB bs (p : Int) with
  | none => simp
  | some x =>
    cases hu : x.used with
    | true => simp [hu]
    | false => simp [hu]
/-- Has a member this number there? -/
def memHas (bs : List UInt8) (c v k u : Nat) : Bool := memberB bs v (c : Int) && (wordN bs (v + k) == u)
theorem memberB_in {bs : List UInt8} {p c : Nat} (h : memberB bs p (c : Int) = true) : 184 ≤ p ∧ p + 32 ≤ bs.length := by
  unfold memberB at h
  cases hg : getB bs (p : Int) with
  | none => rw [hg] at h; simp at h
  | some y =>
    obtain ⟨r1, r2, _, r3, r4, _⟩ := getB_some hg
    have := (isSz_iff _).1 r4
    omega
theorem freeI_in {bs : List UInt8} {o : Int} {c : Nat} (h : freeI bs o = (c : Int)) : 184 ≤ o ∧ o + 32 ≤ bs.length ∧ c < 22 := by
  unfold freeI at h
  cases hg : getB bs o with
  | none => rw [hg] at h; dsimp only at h; omega
  | some y =>
    obtain ⟨r1, r2, _, r3, r4, _⟩ := getB_some hg
    have := (isSz_iff _).1 r4
    obtain ⟨d, hd, hd2⟩ := class_nat r4
    rw [hg] at h
    dsimp only at h
    split at h <;> omega
theorem freeI_cases (bs : List UInt8) (o : Int) : freeI bs o < 0 ∨ ∃ c : Nat, freeI bs o = (c : Int) := by
  by_cases h : freeI bs o < 0
  · exact .inl h
  · exact .inr ⟨(freeI bs o).toNat, by omega⟩
end Go.Proofs.YtbldlidpapdkbaaGreat

/- Lists of free blocks in bytes: what Take comes to where the lists are right. No program in sight. -/
namespace Go.Proofs.YtbldlidpapdkbaaGreat

section
variable {bs : List UInt8} {P : List Bk} {L : Nat → List Nat}
theorem Lists.take (h : Lists bs P L) {x : Bk} (hx : x ∈ P) {c : Nat} (hc22 : c < 22) (ho : x.off ∈ L c) :
    ∃ bs', takeB bs (x.off : Int) = some bs' ∧ Lists bs' P (setL L c ((L c).filter fun q => decide (q ≠ x.off))) ∧ bs'.length = bs.length ∧ Kept P bs bs' := by
  have hf := h.st.facts hx
  have hlen := h.len
  have hsm := h.small
  obtain ⟨hxu, hxc⟩ : x.used = false ∧ classI (x.size : Int) = (c : Int) := by
    obtain ⟨y, hy, e, hu, hcl⟩ := h.mem c hc22 x.off ho
    have := h.st.uniq hy hx e
    subst this
    exact ⟨hu, hcl⟩
  have hfr : freeI bs (x.off : Int) = (c : Int) := by unfold freeI; rw [h.st.at_ x hx]; simp [hxu, hxc]
  obtain ⟨l1, l2, hL⟩ := List.append_of_mem ho
  have hnd := h.nodup c hc22
  have hlk := h.links c hc22
  rw [hL] at hnd hlk
  have hn1 : x.off ∉ l1 := fun e => by
    have := (List.nodup_append.1 hnd).2.2 x.off e x.off (by simp)
    exact this rfl
  have hn2 : x.off ∉ l2 := (List.nodup_cons.1 (List.nodup_append.1 hnd).2.1).1
  have hnd12 : (l1 ++ l2).Nodup := by
    refine List.nodup_append.2 ⟨(List.nodup_append.1 hnd).1, (List.nodup_cons.1 (List.nodup_append.1 hnd).2.1).2, fun a ha b hb => ?_⟩
    exact (List.nodup_append.1 hnd).2.2 a ha b (by simp [hb])
  have hfil : (L c).filter (fun q => decide (q ≠ x.off)) = l1 ++ l2 := by
    rw [hL, List.filter_append, List.filter_cons_of_neg (by simp)]
    congr 1
    · exact List.filter_eq_self.2 fun a ha => by simpa using fun e : a = x.off => hn1 (e ▸ ha)
    · exact List.filter_eq_self.2 fun a ha => by simpa using fun e : a = x.off => hn2 (e ▸ ha)
  rw [hfil]
  rw [link_append] at hlk
  obtain ⟨hk1, hk2, hk3, hk4⟩ := hlk
  obtain ⟨p, hp⟩ : ∃ p, l1.getLastD 0 = p := ⟨_, rfl⟩
  obtain ⟨n, hn⟩ : ∃ n, l2.headD 0 = n := ⟨_, rfl⟩
  rw [hp] at hk2
  rw [hn] at hk3
  -- what is ahead, and what is behind
  have inP : ∀ q, q ∈ L c → memberB bs q (c : Int) = true ∧ ∃ y ∈ P, y.off = q ∧ y.used = false := fun q hq => by
    obtain ⟨m, y, hy, e, hu, _⟩ := h.member hc22 hq
    exact ⟨m, y, hy, e, hu⟩
  have hpc : (l1 = [] ∧ p = 0) ∨ ∃ l, l1 = l ++ [p] ∧ p ∈ L c ∧ p ≠ x.off := by
    rcases List.eq_nil_or_concat l1 with e | ⟨l, q, e⟩
    · left; subst e; exact ⟨rfl, hp.symm⟩
    · right
      subst e
      have : q = p := by rw [← hp]; simp
      subst this
      exact ⟨l, by simp, by rw [hL]; simp, fun e => hn1 (by rw [← e]; simp)⟩
  have hnc : (l2 = [] ∧ n = 0) ∨ ∃ r, l2 = n :: r ∧ n ∈ L c ∧ n ≠ x.off := by
    cases l2 with
    | nil => left; exact ⟨rfl, hn.symm⟩
    | cons q r =>
      right
      obtain rfl : q = n := hn
      exact ⟨r, rfl, by rw [hL]; simp, fun e => hn2 (by rw [← e]; simp)⟩
  have hpn : p ≠ 0 → n ≠ 0 → p ≠ n := fun e1 e2 e => by
    rcases hpc with ⟨_, e0⟩ | ⟨l, el, _⟩
    · exact e1 e0
    · rcases hnc with ⟨_, e0⟩ | ⟨r, er, _⟩
      · exact e2 e0
      · have := (List.nodup_append.1 hnd12).2.2 p (by rw [el]; simp) n (by rw [er]; simp)
        exact this e
  have hplt : p < 18446744073709551616 := by rw [← hk2]; exact wordN_lt _ _
  have hnlt : n < 18446744073709551616 := by rw [← hk3]; exact wordN_lt _ _
  have hfirst : ¬ (p ≠ 0 ∧ (wordN bs (8 + 8 * c) : Int) = (x.off : Int)) := by
    rintro ⟨e1, e2⟩
    rcases hpc with ⟨_, e0⟩ | ⟨l, el, _⟩
    · exact e1 e0
    · have hh := h.head c hc22
      rw [hL, el] at hh
      refine hn1 ?_
      rw [el]
      cases l with
      | nil =>
        have hh : wordN bs (8 + 8 * c) = p := hh
        rw [show x.off = p by omega]
        simp
      | cons q r =>
        have hh : wordN bs (8 + 8 * c) = q := hh
        rw [show x.off = q by omega]
        simp
  have hput : takeB bs (x.off : Int) = some (markB (if n ≠ 0 then lyN (if p = 0 then lyN bs (8 + 8 * c) n else lyN bs (p + 8) n) (n + 16) p else (if p = 0 then lyN bs (8 + 8 * c) n else lyN bs (p + 8) n)) c) := by
    unfold takeB
    rw [hfr, if_neg (by omega)]
    simp only [Int.toNat_natCast, hk2, hk3]
    rw [if_neg, if_neg, if_neg, if_neg hfirst]
    · rintro ⟨e1, e2⟩
      rcases hnc with ⟨_, e0⟩ | ⟨r, er, hm, _⟩
      · exact e1 e0
      · rcases e2 with e2 | e2
        · rw [(inP n hm).1] at e2; cases e2
        · rw [er] at hk4
          exact e2 (by rw [hk4.1])
    · rintro ⟨e1, e2⟩
      rcases hpc with ⟨_, e0⟩ | ⟨l, el, hm, _⟩
      · exact e1 e0
      · rcases e2 with e2 | e2
        · rw [(inP p hm).1] at e2; cases e2
        · rw [el, link_append] at hk1
          exact e2 (by rw [hk1.2.2.1]; rfl)
    · rintro ⟨e1, e2⟩
      rcases hpc with ⟨e0, _⟩ | ⟨l, el, hm, _⟩
      · have := h.head c hc22
        rw [hL, e0] at this
        exact e2 (by rw [this]; rfl)
      · obtain ⟨_, y, hy, e, _⟩ := inP p hm
        have := h.st.facts hy
        omega
  obtain ⟨b1, hb1⟩ : ∃ b1, (if p = 0 then lyN bs (8 + 8 * c) n else lyN bs (p + 8) n) = b1 := ⟨_, rfl⟩
  have f1 : b1.length = bs.length ∧ Stands b1 P ∧ (∀ q, q % 8 = 0 → wordN b1 q = if q = (if p = 0 then 8 + 8 * c else p + 8) then n else wordN bs q) ∧ Kept P bs b1 := by
    rcases hpc with ⟨_, e0⟩ | ⟨l, el, hm, _⟩
    · rw [if_pos e0] at hb1
      subst hb1
      refine ⟨lyN_length _ _ _ (by omega), h.st.lay _ _ (.inl (by omega)) hlen, fun q hq => ?_, Kept.ly P _ _ _ (by omega) (.inl (by omega))⟩
      rw [wordN_ly _ _ _ _ (by omega) hnlt hq (by omega), if_pos e0]
    · obtain ⟨_, y, hy, e, hu⟩ := inP p hm
      have hy' := h.st.facts hy
      have e0 : p ≠ 0 := by omega
      rw [if_neg e0] at hb1
      subst hb1
      refine ⟨lyN_length _ _ _ (by omega), h.st.lay _ _ (.inr ⟨y, hy, by omega, by omega⟩) hlen, fun q hq => ?_, Kept.ly P _ _ _ (by omega) (.inr ⟨y, hy, hu, .inl (by omega)⟩)⟩
      rw [wordN_ly _ _ _ _ (by omega) hnlt hq (by omega), if_neg e0]
  obtain ⟨g1, st1, w1, k1⟩ := f1
  rw [hb1] at hput
  obtain ⟨b2, hb2⟩ : ∃ b2, (if n ≠ 0 then lyN b1 (n + 16) p else b1) = b2 := ⟨_, rfl⟩
  have f2 : b2.length = bs.length ∧ Stands b2 P ∧ (∀ q, q % 8 = 0 → wordN b2 q = if n ≠ 0 ∧ q = n + 16 then p else wordN b1 q) ∧ Kept P b1 b2 := by
    rcases hnc with ⟨_, e0⟩ | ⟨r, er, hm, _⟩
    · rw [if_neg (by omega)] at hb2
      subst hb2
      exact ⟨g1, st1, fun q _ => by rw [if_neg (by omega)], Kept.refl _ _⟩
    · obtain ⟨_, y, hy, e, hu⟩ := inP n hm
      have hy' := h.st.facts hy
      have e0 : n ≠ 0 := by omega
      rw [if_pos e0] at hb2
      subst hb2
      refine ⟨by rw [lyN_length _ _ _ (by omega)]; exact g1, st1.lay _ _ (.inr ⟨y, hy, by omega, by omega⟩) (by omega), fun q hq => ?_, Kept.ly P _ _ _ (by omega) (.inr ⟨y, hy, hu, .inr (by omega)⟩)⟩
      rw [wordN_ly _ _ _ _ (by omega) hplt hq (by omega)]
      by_cases e2 : q = n + 16
      · rw [if_pos e2, if_pos ⟨e0, e2⟩]
      · rw [if_neg e2, if_neg (fun h => e2 h.2)]
  obtain ⟨g2, st2, w2, k2⟩ := f2
  rw [hb2] at hput
  obtain ⟨m1, m2, m3, m4, m5⟩ := markB_spec b2 c hc22 (by omega)
  have n184 : n = 0 ∨ (184 ≤ n ∧ n % 16 = 8) := by
    rcases hnc with ⟨_, e0⟩ | ⟨r, er, hm, _⟩
    · exact .inl e0
    · obtain ⟨_, y, hy, e, _⟩ := inP n hm
      have := h.st.facts hy; omega
  have p184 : p = 0 ∨ (184 ≤ p ∧ p % 16 = 8) := by
    rcases hpc with ⟨_, e0⟩ | ⟨r, er, hm, _⟩
    · exact .inl e0
    · obtain ⟨_, y, hy, e, _⟩ := inP p hm
      have := h.st.facts hy; omega
  have hhead : wordN b2 (8 + 8 * c) = (l1 ++ l2).headD 0 := by
    rw [w2 _ (by omega), if_neg (by omega), w1 _ (by omega)]
    have hh := h.head c hc22
    rw [hL] at hh
    rcases hpc with ⟨el, e0⟩ | ⟨l, el, _⟩
    · rw [if_pos e0, if_pos rfl, el, ← hn]; rfl
    · have e0 : p ≠ 0 := by
        rcases p184 with e | e
        · obtain ⟨_, y, hy, e2, _⟩ := inP p (by rw [hL, el]; simp)
          have := h.st.facts hy; omega
        · omega
      rw [if_neg e0, if_neg (by omega), hh, el]
      cases l <;> rfl
  have hw : ∀ o, (∃ y ∈ P, y.off = o) → ∀ k, k = 8 ∨ k = 16 → wordN (markB b2 c) (o + k) = if p ≠ 0 ∧ o = p ∧ k = 8 then n else if n ≠ 0 ∧ o = n ∧ k = 16 then p else wordN bs (o + k) := by
    rintro o ⟨y, hy, rfl⟩ k hk
    have hy' := h.st.facts hy
    rw [m2 _ (by omega) (by omega), w2 _ (by omega), w1 _ (by omega)]
    by_cases e1 : p ≠ 0 ∧ y.off = p ∧ k = 8
    · rw [if_pos e1, if_neg (by omega), if_pos (by rw [if_neg e1.1]; omega)]
    · rw [if_neg e1]
      by_cases e2 : n ≠ 0 ∧ y.off = n ∧ k = 16
      · rw [if_pos e2, if_pos (by omega)]
      · rw [if_neg e2, if_neg (by omega), if_neg]
        by_cases e0 : p = 0
        · rw [if_pos e0]; omega
        · rw [if_neg e0]; omega
  refine ⟨_, hput, ⟨by omega, by omega, m4 P st2, fun d hd => ?_, fun d hd => ?_, fun d hd o ho => ?_, fun d hd => ?_, fun d hd => ?_⟩, by omega, (k1.trans k2).trans fun i h1 _ => m5 i (by omega)⟩
  · rw [m2 _ (by omega) (by omega)]
    unfold setL
    by_cases hdc : d = c
    · subst hdc; rw [if_pos rfl]; exact hhead
    · rw [if_neg hdc, ← h.head d hd, w2 _ (by omega), if_neg (by omega), w1 _ (by omega), if_neg]
      by_cases e0 : p = 0
      · rw [if_pos e0]; omega
      · rw [if_neg e0]; omega
  · rw [m3 d]
    unfold setL
    by_cases hdc : d = c
    · rw [if_pos hdc, if_pos hdc, hhead]
      cases hl : l1 ++ l2 with
      | nil => rfl
      | cons q r =>
        have hq : q ∈ L c := by
          rw [hL]
          have : q ∈ l1 ++ l2 := by rw [hl]; simp
          rcases List.mem_append.1 this with h1 | h1
          · exact List.mem_append_left _ h1
          · exact List.mem_append_right _ (List.mem_cons_of_mem _ h1)
        obtain ⟨_, y, hy, e, _⟩ := inP q hq
        have := h.st.facts hy
        have h0 : q ≠ 0 := by omega
        simp [h0]
    · rw [if_neg hdc, if_neg hdc, ← h.bit d hd, w2 _ rfl, if_neg (by omega), w1 _ rfl, if_neg]
      by_cases e0 : p = 0
      · rw [if_pos e0]; omega
      · rw [if_neg e0]; omega
  · unfold setL at ho
    by_cases hdc : d = c
    · subst hdc
      rw [if_pos rfl] at ho
      refine h.mem d hd o ?_
      rw [hL]
      rcases List.mem_append.1 ho with h1 | h1
      · exact List.mem_append_left _ h1
      · exact List.mem_append_right _ (List.mem_cons_of_mem _ h1)
    · rw [if_neg hdc] at ho
      exact h.mem d hd o ho
  · unfold setL
    by_cases hdc : d = c
    · subst hdc
      rw [if_pos rfl, link_append, hp, hn]
      have inl1 : ∀ q ∈ l1, ∃ y ∈ P, y.off = q := fun q hq => by
        obtain ⟨_, y, hy, e, _⟩ := inP q (by rw [hL]; simp [hq])
        exact ⟨y, hy, e⟩
      have inl2 : ∀ q ∈ l2, ∃ y ∈ P, y.off = q := fun q hq => by
        obtain ⟨_, y, hy, e, _⟩ := inP q (by rw [hL]; simp [hq])
        exact ⟨y, hy, e⟩
      have ne12 : ∀ q ∈ l1, n ≠ 0 → q ≠ n := fun q hq e0 e => by
        rcases hnc with ⟨_, e1⟩ | ⟨r, er, _⟩
        · exact e0 e1
        · exact (List.nodup_append.1 hnd12).2.2 q hq n (by rw [er]; simp) e
      have ne21 : ∀ q ∈ l2, p ≠ 0 → q ≠ p := fun q hq e0 e => by
        rcases hpc with ⟨_, e1⟩ | ⟨l, el, _⟩
        · exact e0 e1
        · exact (List.nodup_append.1 hnd12).2.2 p (by rw [el]; simp) q hq e.symm
      refine ⟨?_, ?_⟩
      · rcases hpc with ⟨el, e0⟩ | ⟨l, el, _⟩
        · rw [el]; trivial
        · have e0 : p ≠ 0 := by
            obtain ⟨y, hy, e2⟩ := inl1 p (by rw [el]; simp)
            have := h.st.facts hy; omega
          rw [el, link_append] at hk1 ⊢
          obtain ⟨hq1, hq2, hq3, _⟩ := hk1
          have hpl : p ∉ l := fun e => by
            have := (List.nodup_append.1 hnd12).1
            rw [el] at this
            exact (List.nodup_append.1 this).2.2 p e p (by simp) rfl
          refine ⟨link_congr l _ _ (fun q hq => ?_) hq1, ?_, ?_, trivial⟩
          · have hqi := inl1 q (by rw [el]; simp [hq])
            have hqp : q ≠ p := fun e => hpl (e ▸ hq)
            have hqn := ne12 q (by rw [el]; simp [hq])
            rw [hw q hqi 16 (.inr rfl), hw q hqi 8 (.inl rfl), if_neg (by omega), if_neg (fun e => hqn e.1 e.2.1), if_neg (fun e => hqp e.2.1), if_neg (by omega)]
            exact ⟨rfl, rfl⟩
          · rw [hw p (inl1 p (by rw [el]; simp)) 16 (.inr rfl), if_neg (by omega), if_neg (fun e => hpn e0 e.1 e.2.1)]
            exact hq2
          · rw [hw p (inl1 p (by rw [el]; simp)) 8 (.inl rfl), if_pos ⟨e0, rfl, rfl⟩]
            rfl
      · rcases hnc with ⟨er, e0⟩ | ⟨r, er, _⟩
        · rw [er]; trivial
        · have e0 : n ≠ 0 := by
            obtain ⟨y, hy, e2⟩ := inl2 n (by rw [er]; simp)
            have := h.st.facts hy; omega
          rw [er] at hk4 ⊢
          obtain ⟨hq1, hq2, hq3⟩ := hk4
          have hnr : n ∉ r := fun e => by
            have := (List.nodup_append.1 hnd12).2.1
            rw [er] at this
            exact (List.nodup_cons.1 this).1 e
          refine ⟨?_, ?_, link_congr r _ _ (fun q hq => ?_) hq3⟩
          · rw [hw n (inl2 n (by rw [er]; simp)) 16 (.inr rfl), if_neg (by omega), if_pos ⟨e0, rfl, rfl⟩]
          · rw [hw n (inl2 n (by rw [er]; simp)) 8 (.inl rfl), if_neg (fun e => ne21 n (by rw [er]; simp) e.1 e.2.1), if_neg (by omega)]
            exact hq2
          · have hqi := inl2 q (by rw [er]; simp [hq])
            have hqn : q ≠ n := fun e => hnr (e ▸ hq)
            have hqp := ne21 q (by rw [er]; simp [hq])
            rw [hw q hqi 16 (.inr rfl), hw q hqi 8 (.inl rfl), if_neg (by omega), if_neg (fun e => hqn e.2.1), if_neg (fun e => hqp e.1 e.2.1), if_neg (by omega)]
            exact ⟨rfl, rfl⟩
    · rw [if_neg hdc]
      refine link_congr (L d) _ _ (fun q hq => ?_) (h.links d hd)
      obtain ⟨y, hy, e, _, hcl⟩ := h.mem d hd q hq
      have other : ∀ z, z ∈ L c → q ≠ z := fun z hz e2 => by
        obtain ⟨z2, hz2, e3, _, hcl2⟩ := h.mem c hc22 z hz
        have := h.st.uniq hy hz2 (by omega)
        subst this
        rw [hcl] at hcl2; omega
      have hqp : ¬ (p ≠ 0 ∧ q = p) := by
        rintro ⟨e1, e2⟩
        rcases hpc with ⟨_, e0⟩ | ⟨l, el, hm, _⟩
        · exact e1 e0
        · exact other p hm e2
      have hqn : ¬ (n ≠ 0 ∧ q = n) := by
        rintro ⟨e1, e2⟩
        rcases hnc with ⟨_, e0⟩ | ⟨l, el, hm, _⟩
        · exact e1 e0
        · exact other n hm e2
      rw [hw q ⟨y, hy, e⟩ 16 (.inr rfl), hw q ⟨y, hy, e⟩ 8 (.inl rfl), if_neg (fun e => hqp ⟨e.1, e.2.1⟩), if_neg (fun e => hqn ⟨e.1, e.2.1⟩), if_neg (fun e => hqp ⟨e.1, e.2.1⟩), if_neg (fun e => hqn ⟨e.1, e.2.1⟩)]
      exact ⟨rfl, rfl⟩
  · unfold setL
    by_cases hdc : d = c
    · rw [if_pos hdc]; exact hnd12
    · rw [if_neg hdc]; exact h.nodup d hd
end
end Go.Proofs.YtbldlidpapdkbaaGreat

/- A number of the head turned: not right. Plain facts, no program in sight. -/
namespace Go.Proofs.YtbldlidpapdkbaaGreat

theorem chkC_true {bs : List UInt8} {l : List Bk} : ∀ (k c : Nat) (fr : Int), chkC bs l k c fr = true → ∀ d, c ≤ d → d < c + k → ∃ al, allB bs d = some al ∧ al.all (okO l al) = true
  | 0, c, fr, _, d, h1, h2 => by omega
  | k + 1, c, fr, h, d, h1, h2 => by
    unfold chkC at h
    cases ha : allB bs c with
    | none => rw [ha] at h; cases h
    | some al =>
      rw [ha] at h
      dsimp only at h
      rw [Bool.and_eq_true] at h
      rcases Nat.lt_or_ge c d with hlt | hge
      · exact chkC_true k (c + 1) _ h.2 d hlt (by omega)
      · obtain rfl : d = c := by omega
        exact ⟨al, ha, h.1⟩
theorem allB_bit {bs : List UInt8} {c : Nat} {l : List Nat} (h : allB bs c = some l) : bitN (wordN bs 0) c = decide (wordN bs (8 + 8 * c) ≠ 0) ∧ allF bs c 1024 0 (wordN bs (8 + 8 * c)) = some l := by
  unfold allB at h
  split at h
  · cases h
  · split at h
    · cases h
    · rename_i hb
      exact ⟨Decidable.not_not.1 hb, h⟩
end Go.Proofs.YtbldlidpapdkbaaGreat

/- The document's heap, plain: blocks, lists, what each block holds; what in, out, drop, put, give, cut, Find, Take, Give, Trim come to. No program in sight. -/
namespace Go.Proofs.YtbldlidpapdkbaaGreat

/-- What a block holds: its slice, and the bytes. -/
abbrev Dt : Type := Value × List UInt8
def nilD : Dt := (.slice none 0 0, [])
/-- A heap. -/
structure Hp where
  cap : Nat
  blks : List Bk
  ds : List Dt
  lists : Nat → List Nat

/-- Where the last block ends. -/
def sumB : List Bk → Nat
  | [] => 0
  | x :: r => x.size + sumB r
def lenB (l : List Bk) : Nat := 184 + sumB l
/-- The i-th block. -/
def bkAt (l : List Bk) (i : Nat) : Bk := l.getD i ⟨0, 0, false⟩
/-- Which block stands at o. -/
def atB (o : Int) : List Bk → Option Nat
  | [] => none
  | x :: r => if (x.off : Int) = o then some 0 else (atB o r).map (· + 1)
def usedB (l : List Bk) (o : Int) : Option Nat := match atB o l with
  | none => none
  | some i => if (bkAt l i).used = true then some i else none
def clsB (x : Bk) : Nat := (classI (x.size : Int)).toNat
def Hp.out (H : Hp) (i : Nat) : Hp := { H with lists := setL H.lists (clsB (bkAt H.blks i)) ((H.lists (clsB (bkAt H.blks i))).filter fun o => o != (bkAt H.blks i).off) }
def Hp.in_ (H : Hp) (i : Nat) : Hp := { H with lists := setL H.lists (clsB (bkAt H.blks i)) ((bkAt H.blks i).off :: H.lists (clsB (bkAt H.blks i))) }
def Hp.drop (H : Hp) (i : Nat) : Hp := { H with blks := H.blks.take i ++ H.blks.drop (i + 1), ds := H.ds.take i ++ H.ds.drop (i + 1) }
def Hp.put (H : Hp) (i : Nat) (x : Bk) : Hp := { H with blks := H.blks.take i ++ x :: H.blks.drop i, ds := H.ds.take i ++ nilD :: H.ds.drop i }
def Hp.size (H : Hp) (i s : Nat) : Hp := { H with blks := H.blks.set i { bkAt H.blks i with size := s } }
def Hp.use (H : Hp) (i : Nat) (u : Bool) : Hp := { H with blks := H.blks.set i { bkAt H.blks i with used := u } }
def Hp.wipe (H : Hp) (i : Nat) : Hp := { H with ds := H.ds.set i nilD }
/-- Is there a free block right behind the i-th? -/
def nextF (l : List Bk) (i : Nat) : Bool := decide (i + 1 < l.length) && !(bkAt l (i + 1)).used
def prevF (l : List Bk) (i : Nat) : Bool := decide (0 < i) && !(bkAt l (i - 1)).used
/-- The i-th and the one behind it are one. -/
def Hp.join (H : Hp) (i : Nat) : Hp := ((H.size i ((bkAt H.blks i).size + (bkAt H.blks (i + 1)).size)).drop (i + 1))
def Hp.giveB (H : Hp) (i : Nat) : Hp := if nextF H.blks i = true then (H.out (i + 1)).join i else H
def Hp.giveC (H : Hp) (i : Nat) : Hp := if prevF H.blks i = true then ((H.out (i - 1)).join (i - 1)).in_ (i - 1) else H.in_ i
def Hp.give (H : Hp) (i : Nat) : Hp := (((H.use i false).wipe i).giveB i).giveC i
def Hp.cut (H : Hp) (i s : Nat) : Hp := if (bkAt H.blks i).size < s + 32 then H.use i true else (((H.use i true).size i s).put (i + 1) ⟨(bkAt H.blks i).off + s, (bkAt H.blks i).size - s, true⟩).give (i + 1)
/-- The first of a list with so many bytes. -/
def findL (l : List Bk) (s : Nat) : List Nat → Option Nat
  | [] => none
  | o :: r => match atB (o : Int) l with
    | none => none
    | some i => if s ≤ (bkAt l i).size then some i else findL l s r
def Hp.findC (H : Hp) (s : Nat) : Nat → Nat → Option Nat
  | 0, _ => none
  | k + 1, c => match findL H.blks s (H.lists c) with
    | some i => some i
    | none => H.findC s k (c + 1)
def Hp.find (H : Hp) (s : Nat) : Option Nat := H.findC s (22 - (classI (s : Int)).toNat) (classI (s : Int)).toNat
/-- How many bytes the last block has, if it is free. -/
def tailF (l : List Bk) : Nat := if l.length = 0 then 0 else if (bkAt l (l.length - 1)).used = true then 0 else (bkAt l (l.length - 1)).size
/-- Where a block of a size is taken, if it can be; the heap then. -/
def Hp.take (H : Hp) (s : Nat) : Option Nat × Hp := match H.find s with
  | some i => (some (bkAt H.blks i).off, (H.out i).cut i s)
  | none => if H.cap < lenB H.blks + s - tailF H.blks then (none, H)
    else if 0 < tailF H.blks then (some (bkAt H.blks (H.blks.length - 1)).off, ((H.out (H.blks.length - 1)).size (H.blks.length - 1) s).use (H.blks.length - 1) true)
    else (some (lenB H.blks), H.put H.blks.length ⟨lenB H.blks, s, true⟩)
/-- All blocks one behind the other, all within 16384 bytes; as many slices as blocks; no list is long. -/
structure Hp.Ok (H : Hp) : Prop where
  tl : tile 184 H.blks (lenB H.blks)
  le : lenB H.blks ≤ 16384
  dl : H.ds.length = H.blks.length
/-- Whatever is listed is a block. -/
def Hp.Listed (H : Hp) : Prop := ∀ c, c < 22 → ∀ o ∈ H.lists c, ∃ i, atB (o : Int) H.blks = some i

theorem tile_sum : ∀ (l : List Bk) (o e : Nat), tile o l e → e = o + sumB l
  | [], o, e, h => by simp [tile] at h; simp [sumB]; omega
  | x :: r, o, e, h => by
    obtain ⟨h1, h2, h3⟩ := h
    have := tile_sum r _ e h3
    simp [sumB]; omega
theorem tile_app : ∀ (a b : List Bk) (o e : Nat), tile o (a ++ b) e ↔ tile o a (o + sumB a) ∧ tile (o + sumB a) b e
  | [], b, o, e => by simp [sumB, tile]
  | x :: r, b, o, e => by
    simp only [List.cons_append, tile, sumB]
    rw [tile_app r b]
    constructor
    · rintro ⟨h1, h2, h3, h4⟩
      refine ⟨⟨h1, h2, ?_⟩, ?_⟩
      · rw [show o + (x.size + sumB r) = o + x.size + sumB r by omega]; exact h3
      · rw [show o + (x.size + sumB r) = o + x.size + sumB r by omega]; exact h4
    · rintro ⟨⟨h1, h2, h3⟩, h4⟩
      rw [show o + (x.size + sumB r) = o + x.size + sumB r by omega] at h3 h4
      exact ⟨h1, h2, h3, h4⟩
theorem sumB_app (a b : List Bk) : sumB (a ++ b) = sumB a + sumB b := by
  induction a with
  | nil => simp [sumB]
  | cons x r ih => simp only [List.cons_append, sumB, ih]; omega
theorem atB_some {o : Int} : ∀ {l : List Bk} {i : Nat}, atB o l = some i → ∃ x, l[i]? = some x ∧ (x.off : Int) = o
  | [], _, h => by cases h
  | x :: r, i, h => by
    unfold atB at h
    split at h
    · rename_i hx
      injection h with h
      subst h
      exact ⟨x, rfl, hx⟩
    · cases hr : atB o r with
      | none => rw [hr] at h; cases h
      | some j =>
        rw [hr] at h
        injection h with h
        subst h
        obtain ⟨y, h1, h2⟩ := atB_some hr
        exact ⟨y, by simpa using h1, h2⟩
theorem atB_none {o : Int} : ∀ {l : List Bk}, atB o l = none → ∀ x ∈ l, (x.off : Int) ≠ o
  | [], _, x, hx => by cases hx
  | y :: r, h, x, hx => by
    unfold atB at h
    split at h
    · cases h
    · rename_i hy
      rcases List.mem_cons.1 hx with rfl | hx
      · exact hy
      · cases hr : atB o r with
        | none => exact atB_none hr x hx
        | some j => rw [hr] at h; cases h
theorem bkAt_of {l : List Bk} {i : Nat} {x : Bk} (h : l[i]? = some x) : bkAt l i = x := by
  unfold bkAt
  rw [List.getD_eq_getElem?_getD, h]
  rfl
theorem bkAt_get {l : List Bk} {i : Nat} (h : i < l.length) : l[i]? = some (bkAt l i) := by
  rw [List.getElem?_eq_getElem h]
  exact congrArg some (bkAt_of (List.getElem?_eq_getElem h)).symm
theorem atB_at {l : List Bk} {i : Nat} {o : Int} (h : atB o l = some i) : i < l.length ∧ ((bkAt l i).off : Int) = o := by
  obtain ⟨x, h1, h2⟩ := atB_some h
  have hi : i < l.length := by
    rcases Nat.lt_or_ge i l.length with h | h
    · exact h
    · rw [List.getElem?_eq_none h] at h1; cases h1
  rw [bkAt_of h1]
  exact ⟨hi, h2⟩
theorem lst_split {α : Type} {l : List α} {i : Nat} {x : α} (h : l[i]? = some x) : l = l.take i ++ x :: l.drop (i + 1) := by
  have hi : i < l.length := by
    rcases Nat.lt_or_ge i l.length with h' | h'
    · exact h'
    · rw [List.getElem?_eq_none h'] at h; cases h
  have e : l[i] = x := by rw [List.getElem?_eq_getElem hi] at h; injection h
  calc l = l.take i ++ l.drop i := (List.take_append_drop i l).symm
    _ = _ := by rw [List.drop_eq_getElem_cons hi, e]
theorem lst_set {α : Type} {l : List α} {i : Nat} {x : α} (y : α) (h : l[i]? = some x) : l.set i y = l.take i ++ y :: l.drop (i + 1) := by
  have hi : i < l.length := by
    rcases Nat.lt_or_ge i l.length with h' | h'
    · exact h'
    · rw [List.getElem?_eq_none h'] at h; cases h
  rw [List.set_eq_take_append_cons_drop, if_pos hi]

section
variable {l : List Bk} {e i : Nat} {x : Bk}
/-- What lies ahead of the i-th block, it itself, and what lies behind it. -/
theorem tile_at (h : tile 184 l e) (hx : l[i]? = some x) : tile 184 (l.take i) x.off ∧ x.off = 184 + sumB (l.take i) ∧ isSz (x.size : Int) = true ∧ tile (x.off + x.size) (l.drop (i + 1)) e := by
  rw [lst_split hx, tile_app] at h
  obtain ⟨h1, h2, h3, h4⟩ := h
  have e1 : (184 + sumB (l.take i)) = x.off := by omega
  rw [e1] at h1
  refine ⟨h1, by omega, h3, ?_⟩
  rw [e1] at h4
  exact h4
theorem tile_of (h1 : tile 184 (l.take i) x.off) (h3 : isSz (x.size : Int) = true) {r : List Bk} (h4 : tile (x.off + x.size) r e) : tile 184 (l.take i ++ x :: r) e := by
  have := tile_sum _ _ _ h1
  rw [tile_app]
  rw [← this]
  exact ⟨h1, rfl, h3, h4⟩
theorem tile_len (h : tile 184 l e) : lenB l = e := by
  have := tile_sum _ _ _ h
  unfold lenB; omega
end
end Go.Proofs.YtbldlidpapdkbaaGreat

/- The document's heap, plain: that all stays one behind the other when a block is given, cut, taken. No program in sight. -/
namespace Go.Proofs.YtbldlidpapdkbaaGreat

theorem lst_lt {α : Type} {l : List α} {i : Nat} {x : α} (h : l[i]? = some x) : i < l.length := by
  rcases Nat.lt_or_ge i l.length with h' | h'
  · exact h'
  · rw [List.getElem?_eq_none h'] at h; cases h
theorem set_take {α : Type} (l : List α) (i : Nat) (y : α) (hi : i < l.length) : (l.set i y).take (i + 1) = l.take i ++ [y] := by
  rw [List.take_set, List.take_add_one, List.getElem?_eq_getElem hi]
  rw [Option.toList_some, List.set_append_right _ _ (by rw [List.length_take]; omega), List.length_take]
  congr 1
  have e : i - min i l.length = 0 := by omega
  rw [e]
  rfl
theorem set_drop {α : Type} (l : List α) (i k : Nat) (y : α) (hk : i < k) : (l.set i y).drop k = l.drop k := List.drop_set_of_lt hk
theorem bkAt_set (l : List Bk) (i j : Nat) (y : Bk) (hi : i < l.length) : bkAt (l.set i y) j = if j = i then y else bkAt l j := by
  unfold bkAt
  rw [List.getD_eq_getElem?_getD, List.getD_eq_getElem?_getD]
  by_cases h : j = i
  · subst h
    rw [List.getElem?_set_self hi, if_pos rfl]
    rfl
  · rw [List.getElem?_set_ne (fun e => h e.symm), if_neg h]
theorem sz_add {a b : Nat} (ha : isSz (a : Int) = true) (hb : isSz (b : Int) = true) (h : a + b ≤ 16384) : isSz ((a + b : Nat) : Int) = true := by
  have h1 := (isSz_iff _).1 ha
  have h2 := (isSz_iff _).1 hb
  exact (isSz_iff _).2 (by omega)

section
variable {H : Hp} {i s : Nat}
theorem Hp.Ok.at_ (h : H.Ok) (hi : i < H.blks.length) : tile 184 (H.blks.take i) (bkAt H.blks i).off ∧ isSz ((bkAt H.blks i).size : Int) = true ∧ tile ((bkAt H.blks i).off + (bkAt H.blks i).size) (H.blks.drop (i + 1)) (lenB H.blks) := by
  obtain ⟨a, _, b, c⟩ := tile_at h.tl (bkAt_get hi)
  exact ⟨a, b, c⟩
theorem Hp.Ok.sz (h : H.Ok) (hi : i < H.blks.length) : isSz ((bkAt H.blks i).size : Int) = true := (h.at_ hi).2.1
theorem Hp.Ok.len (h : H.Ok) : H.blks.length * 32 ≤ lenB H.blks := by
  have go : ∀ (l : List Bk) (o e : Nat), tile o l e → l.length * 32 ≤ sumB l := by
    intro l
    induction l with
    | nil => intro o e _; simp [sumB]
    | cons x r ih =>
      intro o e ht
      obtain ⟨_, h2, h3⟩ := ht
      have h4 := ih _ _ h3
      have h5 := (isSz_iff _).1 h2
      simp only [List.length_cons, sumB]
      omega
  have := go H.blks 184 _ h.tl
  unfold lenB
  omega
theorem Hp.Ok.n (h : H.Ok) : H.blks.length ≤ 512 := by
  have h1 := h.len
  have h2 := h.le
  omega
/-- The ends of the i-th, and of the one behind it. -/
theorem Hp.Ok.two (h : H.Ok) (hi : i + 1 < H.blks.length) : (bkAt H.blks (i + 1)).off = (bkAt H.blks i).off + (bkAt H.blks i).size ∧ (bkAt H.blks i).size + (bkAt H.blks (i + 1)).size ≤ 16384 := by
  obtain ⟨_, hs, ht⟩ := h.at_ (i := i) (by omega)
  rw [List.drop_eq_getElem_cons hi] at ht
  have e : H.blks[i + 1] = bkAt H.blks (i + 1) := by
    have := bkAt_get hi
    rw [List.getElem?_eq_getElem hi] at this
    exact Option.some.inj this
  rw [e] at ht
  obtain ⟨h1, _, h3⟩ := ht
  have h4 := (tile_mem _ _ _ h3).1
  have h5 := h.le
  exact ⟨h1, by omega⟩
/-- A block with the same place and size. -/
theorem Hp.Ok.same (h : H.Ok) (hi : i < H.blks.length) (y : Bk) (ho : y.off = (bkAt H.blks i).off) (hs : y.size = (bkAt H.blks i).size) : tile 184 (H.blks.set i y) (lenB H.blks) ∧ lenB (H.blks.set i y) = lenB H.blks := by
  obtain ⟨a, b, c⟩ := h.at_ hi
  have ht : tile 184 (H.blks.set i y) (lenB H.blks) := by
    rw [lst_set y (bkAt_get hi)]
    refine tile_of (by rw [ho]; exact a) (by rw [hs]; exact b) ?_
    rw [ho, hs]; exact c
  exact ⟨ht, tile_len ht⟩
theorem Hp.Ok.use (h : H.Ok) (hi : i < H.blks.length) (u : Bool) : (H.use i u).Ok := by
  obtain ⟨h1, h2⟩ := h.same hi { bkAt H.blks i with used := u } rfl rfl
  refine ⟨?_, ?_, ?_⟩
  · show tile 184 (H.blks.set i _) (lenB (H.blks.set i _))
    rw [h2]; exact h1
  · show lenB (H.blks.set i _) ≤ _
    rw [h2]; exact h.le
  · show H.ds.length = (H.blks.set i _).length
    rw [List.length_set]; exact h.dl
theorem Hp.Ok.wipe (h : H.Ok) : (H.wipe i).Ok := ⟨h.tl, h.le, by show (H.ds.set i _).length = _; rw [List.length_set]; exact h.dl⟩
theorem Hp.Ok.out (h : H.Ok) : (H.out i).Ok := ⟨h.tl, h.le, h.dl⟩
theorem Hp.Ok.in_ (h : H.Ok) : (H.in_ i).Ok := ⟨h.tl, h.le, h.dl⟩
theorem join_blks (H : Hp) (hi : i + 1 < H.blks.length) : (H.join i).blks = H.blks.take i ++ { bkAt H.blks i with size := (bkAt H.blks i).size + (bkAt H.blks (i + 1)).size } :: H.blks.drop (i + 2) := by
  show (H.blks.set i _).take (i + 1) ++ (H.blks.set i _).drop (i + 1 + 1) = _
  rw [set_take _ _ _ (by omega), set_drop _ _ _ _ (by omega), List.append_assoc]
  rfl
theorem Hp.Ok.join (h : H.Ok) (hi : i + 1 < H.blks.length) : (H.join i).Ok := by
  obtain ⟨a, b, c⟩ := h.at_ (i := i) (by omega)
  obtain ⟨_, b2, c2⟩ := h.at_ (i := i + 1) hi
  obtain ⟨e, hle⟩ := h.two hi
  have ht : tile 184 (H.join i).blks (lenB H.blks) := by
    rw [join_blks H hi]
    refine tile_of (x := { bkAt H.blks i with size := (bkAt H.blks i).size + (bkAt H.blks (i + 1)).size }) a (sz_add b b2 hle) ?_
    show tile ((bkAt H.blks i).off + ((bkAt H.blks i).size + (bkAt H.blks (i + 1)).size)) _ _
    rw [← Nat.add_assoc, ← e]
    exact c2
  have hl := tile_len ht
  refine ⟨by rw [hl]; exact ht, by rw [hl]; exact h.le, ?_⟩
  show (H.ds.take (i + 1) ++ H.ds.drop (i + 1 + 1)).length = (H.join i).blks.length
  rw [join_blks H hi]
  have := h.dl
  simp only [List.length_append, List.length_take, List.length_drop, List.length_cons]
  omega
theorem join_at (H : Hp) (hi : i + 1 < H.blks.length) : i < (H.join i).blks.length ∧ bkAt (H.join i).blks i = { bkAt H.blks i with size := (bkAt H.blks i).size + (bkAt H.blks (i + 1)).size } ∧ (H.join i).blks.length + 1 = H.blks.length := by
  rw [join_blks H hi]
  refine ⟨?_, bkAt_of ?_, ?_⟩
  · simp only [List.length_append, List.length_take, List.length_cons]; omega
  · rw [List.getElem?_append_right (by rw [List.length_take]; omega), List.length_take, show i - min i H.blks.length = 0 by omega]
    rfl
  · simp only [List.length_append, List.length_take, List.length_cons, List.length_drop]; omega
theorem cut_blks (H : Hp) (hi : i < H.blks.length) (y : Bk) : (((H.use i true).size i s).put (i + 1) y).blks = H.blks.take i ++ { bkAt H.blks i with used := true, size := s } :: y :: H.blks.drop (i + 1) := by
  have e : bkAt (H.blks.set i { bkAt H.blks i with used := true }) i = { bkAt H.blks i with used := true } := by rw [bkAt_set _ _ _ _ hi, if_pos rfl]
  show ((H.blks.set i { bkAt H.blks i with used := true }).set i { bkAt (H.blks.set i { bkAt H.blks i with used := true }) i with size := s }).take (i + 1) ++ y :: ((H.blks.set i { bkAt H.blks i with used := true }).set i { bkAt (H.blks.set i { bkAt H.blks i with used := true }) i with size := s }).drop (i + 1) = _
  rw [e, List.set_set, set_take _ _ _ hi, set_drop _ _ _ _ (by omega), List.append_assoc]
  rfl
theorem Hp.Ok.cut (h : H.Ok) (hi : i < H.blks.length) (hs : isSz (s : Int) = true) (hle : s + 32 ≤ (bkAt H.blks i).size) : (((H.use i true).size i s).put (i + 1) ⟨(bkAt H.blks i).off + s, (bkAt H.blks i).size - s, true⟩).Ok := by
  obtain ⟨a, b, c⟩ := h.at_ hi
  have h1 := (isSz_iff _).1 hs
  have h2 := (isSz_iff _).1 b
  have ht : tile 184 (((H.use i true).size i s).put (i + 1) ⟨(bkAt H.blks i).off + s, (bkAt H.blks i).size - s, true⟩).blks (lenB H.blks) := by
    rw [cut_blks H hi]
    refine tile_of (x := { bkAt H.blks i with used := true, size := s }) a hs ⟨rfl, (isSz_iff _).2 (by dsimp only; omega), ?_⟩
    dsimp only
    rw [show (bkAt H.blks i).off + s + ((bkAt H.blks i).size - s) = (bkAt H.blks i).off + (bkAt H.blks i).size by omega]
    exact c
  have hl := tile_len ht
  refine ⟨by rw [hl]; exact ht, by rw [hl]; exact h.le, ?_⟩
  rw [cut_blks H hi]
  show (H.ds.take (i + 1) ++ nilD :: H.ds.drop (i + 1)).length = _
  have := h.dl
  simp only [List.length_append, List.length_take, List.length_drop, List.length_cons]
  omega
theorem cut_len (H : Hp) (hi : i < H.blks.length) (y : Bk) : (((H.use i true).size i s).put (i + 1) y).blks.length = H.blks.length + 1 := by
  rw [cut_blks H hi]
  simp only [List.length_append, List.length_take, List.length_drop, List.length_cons]
  omega

/-- No list has more than N. -/
def Hp.Few (H : Hp) (N : Nat) : Prop := ∀ d, d < 22 → (H.lists d).length ≤ N
theorem Hp.Few.out {N : Nat} (h : H.Few N) : (H.out i).Few N := fun d hd => by
  show (setL H.lists _ _ d).length ≤ N
  unfold setL
  split
  · rename_i e
    rw [← e]
    exact Nat.le_trans (List.length_filter_le _ _) (h d hd)
  · exact h d hd
theorem Hp.Few.in_ {N : Nat} (h : H.Few N) : (H.in_ i).Few (N + 1) := fun d hd => by
  show (setL H.lists _ _ d).length ≤ N + 1
  unfold setL
  split
  · rename_i e
    rw [← e, List.length_cons]
    exact Nat.succ_le_succ (h d hd)
  · exact Nat.le_succ_of_le (h d hd)
theorem Hp.Few.more {N M : Nat} (h : H.Few N) (hm : N ≤ M) : H.Few M := fun d hd => Nat.le_trans (h d hd) hm
end
end Go.Proofs.YtbldlidpapdkbaaGreat

/- The document's heap, plain: that there are as many slices as blocks; an arena's bytes that are such a heap. No program in sight. -/
namespace Go.Proofs.YtbldlidpapdkbaaGreat

/-- As many slices as blocks. -/
def Hp.Dl (H : Hp) : Prop := H.ds.length = H.blks.length
section
variable {H : Hp} {i s : Nat}
theorem Hp.Dl.use (h : H.Dl) (u : Bool) : (H.use i u).Dl := by show H.ds.length = (H.blks.set i _).length; rw [List.length_set]; exact h
theorem Hp.Dl.size (h : H.Dl) : (H.size i s).Dl := by show H.ds.length = (H.blks.set i _).length; rw [List.length_set]; exact h
theorem Hp.Dl.wipe (h : H.Dl) : (H.wipe i).Dl := by show (H.ds.set i _).length = H.blks.length; rw [List.length_set]; exact h
theorem Hp.Dl.out (h : H.Dl) : (H.out i).Dl := h
theorem Hp.Dl.in_ (h : H.Dl) : (H.in_ i).Dl := h
theorem Hp.Dl.drop (h : H.Dl) : (H.drop i).Dl := by
  show (H.ds.take i ++ H.ds.drop (i + 1)).length = (H.blks.take i ++ H.blks.drop (i + 1)).length
  have h : H.ds.length = H.blks.length := h
  simp only [List.length_append, List.length_take, List.length_drop, h]
theorem Hp.Dl.put (h : H.Dl) (x : Bk) : (H.put i x).Dl := by
  show (H.ds.take i ++ nilD :: H.ds.drop i).length = (H.blks.take i ++ x :: H.blks.drop i).length
  have h : H.ds.length = H.blks.length := h
  simp only [List.length_append, List.length_take, List.length_drop, List.length_cons, h]
theorem Hp.Dl.join (h : H.Dl) : (H.join i).Dl := Hp.Dl.drop (Hp.Dl.size h)
theorem Hp.Dl.giveB (h : H.Dl) : (H.giveB i).Dl := by
  unfold Hp.giveB
  split
  · exact Hp.Dl.join (Hp.Dl.out h)
  · exact h
theorem Hp.Dl.giveC (h : H.Dl) : (H.giveC i).Dl := by
  unfold Hp.giveC
  split
  · exact Hp.Dl.in_ (Hp.Dl.join (Hp.Dl.out h))
  · exact Hp.Dl.in_ h
theorem Hp.Dl.give (h : H.Dl) : (H.give i).Dl := (h.use false).wipe.giveB.giveC
theorem Hp.Dl.cut (h : H.Dl) : (H.cut i s).Dl := by
  unfold Hp.cut
  split
  · exact h.use true
  · exact ((h.use true).size.put _).give
theorem Hp.Dl.take (h : H.Dl) : (H.take s).2.Dl := by
  unfold Hp.take
  split
  · exact Hp.Dl.cut (Hp.Dl.out h)
  · split
    · exact h
    · split
      · exact Hp.Dl.use (Hp.Dl.size (Hp.Dl.out h)) true
      · exact h.put _
theorem giveB_cap : (H.giveB i).cap = H.cap := by unfold Hp.giveB; split <;> rfl
theorem giveC_cap : (H.giveC i).cap = H.cap := by unfold Hp.giveC; split <;> rfl
theorem give_cap : (H.give i).cap = H.cap := by unfold Hp.give; rw [giveC_cap, giveB_cap]; rfl
theorem cut_cap : (H.cut i s).cap = H.cap := by
  unfold Hp.cut
  split
  · rfl
  · rw [give_cap]; rfl
theorem take_cap : (H.take s).2.cap = H.cap := by
  unfold Hp.take
  split
  · exact cut_cap
  · split
    · rfl
    · split <;> rfl
end

/-- Bytes that are a heap: its blocks, its lists; they are right. -/
structure Rt (bs : List UInt8) (H : Hp) : Prop where
  walk : walkB bs = some H.blks
  all_ : ∀ c, c < 22 → allB bs c = some (H.lists c)
  chk : checkB bs = true
  len : bs.length ≤ H.cap
section
variable {bs : List UInt8} {H : Hp}
theorem Rt.lenE (h : Rt bs H) : lenB H.blks = bs.length := tile_len (walkB_tiles h.walk).2.1
theorem Rt.ok (h : Rt bs H) (hc : H.cap ≤ 16384) (hd : H.Dl) : H.Ok := ⟨by rw [h.lenE]; exact (walkB_tiles h.walk).2.1, by rw [h.lenE]; exact Nat.le_trans h.len hc, hd⟩
theorem Rt.few (h : Rt bs H) : H.Few 1024 := fun d hd => allB_len (h.all_ d hd)
theorem atB_mem {l : List Bk} {x : Bk} (hx : x ∈ l) : ∃ i, atB (x.off : Int) l = some i := by
  cases h : atB (x.off : Int) l with
  | some i => exact ⟨i, rfl⟩
  | none => exact absurd rfl (atB_none h x hx)
theorem Rt.listed (h : Rt bs H) : H.Listed := fun c hc o ho => by
  have hk := h.chk
  unfold checkB at hk
  rw [h.walk] at hk
  simp only [Bool.and_eq_true] at hk
  obtain ⟨al, h1, h2⟩ := chkC_true 22 0 _ hk.2.2 c (Nat.zero_le _) (by omega)
  rw [h.all_ c hc] at h1
  injection h1 with h1
  subst h1
  have h3 := List.all_eq_true.1 h2 o ho
  unfold okO at h3
  rw [Bool.and_eq_true] at h3
  have h4 := h3.1
  unfold foundB at h4
  obtain ⟨x, hx, hx2⟩ := List.any_eq_true.1 h4
  simp only [Bool.and_eq_true, beq_iff_eq] at hx2
  rw [← hx2.1]
  exact atB_mem hx
end
/-- What is used in both heaps holds what it held, as far as both go. -/
def Held (H : Hp) (bs : List UInt8) (H' : Hp) (out : List UInt8) : Prop :=
  ∀ x ∈ H.blks, x.used = true → ∀ y ∈ H'.blks, y.used = true → y.off = x.off → ∀ i, x.off + 8 ≤ i → i + 8 < x.off + x.size → i + 8 < y.off + y.size → out[i]? = bs[i]?
end Go.Proofs.YtbldlidpapdkbaaGreat

/- Layer 8's laws over the contracts of the program's two functions: the head, ClassTells. -/
namespace Go.Proofs.YtbldlidpapdkbaaGreat
open Go.RowKit

def NeedC : Prop := ∀ (w : World) (n : Nat), n < 18446744073709551616 → Calls Tryz.prog 51 #[.int .u64 (n : Int)] w fun e w' => e = .returned (needV (needN n)) ∧ Below w.heap.size w w'
def ClassC : Prop := ∀ (w : World) (s : Int), (-9223372036854775808 ≤ s ∧ s ≤ 9223372036854775807) → Calls Tryz.prog 64 #[.int .i64 s] w fun e w' => e = .returned (.int .i64 (classI s)) ∧ Below w.heap.size w w'

end Go.Proofs.YtbldlidpapdkbaaGreat

/- The program's classes: isSize, bits.Len, Need, Class. -/
namespace Go.Proofs.YtbldlidpapdkbaaGreat
open Go.RowKit

section
variable (w : World)
set_option maxHeartbeats 400000 in
theorem cissize_any (n : Int) (hn : -9223372036854775808 ≤ n ∧ n ≤ 9223372036854775807) (b : Bool) (hb : isSz n = b) :
    Calls Tryz.prog 84 #[.int .i64 n] w fun e w' => e = .returned (.bool b) ∧ w = w' := by
  by_cases h1 : 32 ≤ n
  · by_cases h2 : n ≤ 16384
    · have e : (n % 16 == 0) = b := by rw [← hb]; simp [isSz, h1, h2]
      have HE := Lib.hid e
      clear hb e
      go_enter Tryz.func84, Tryz.ntmps84
      go_wp2
      go_ret
      exact ⟨rt_b HE.out, rfl⟩
    · obtain rfl : false = b := by rw [← hb]; simp [isSz, h2]
      clear hb
      go_enter Tryz.func84, Tryz.ntmps84
      go_wp2
      go_ret
      exact ⟨rfl, rfl⟩
  · obtain rfl : false = b := by rw [← hb]; simp [isSz, h1]
    clear hb
    go_enter Tryz.func84, Tryz.ntmps84
    go_wp2
    go_ret
    exact ⟨rfl, rfl⟩

theorem len8_le : ∀ q : Fin 256, 0 ≤ Lib.len8 (q.1 : Int) ∧ Lib.len8 (q.1 : Int) ≤ 8 := by decide +kernel
set_option maxHeartbeats 4000000 in
set_option maxRecDepth 100000 in
theorem blen64_int (x : Int) (h0 : 0 ≤ x) (h1 : x ≤ 255) : Calls Tryz.prog 102 #[.int .u64 x] w fun e w' => e = .returned (.int .i64 (wrap64 (wrap64 (Lib.len8 x)))) ∧ w = w' := by
  go_enter Tryz.func102, Tryz.ntmps102
  go_wp2
  go_ret
  exact ⟨rfl, rfl⟩
theorem blen64_any (q : Nat) (hq : q ≤ 255) : Calls Tryz.prog 102 #[.int .u64 (q : Int)] w fun e w' => e = .returned (.int .i64 (Lib.len8 (q : Int))) ∧ w = w' := by
  have hl := len8_le ⟨q, by omega⟩
  have h := blen64_int w (q : Int) (by omega) (by omega)
  have e : wrap64 (wrap64 (Lib.len8 (q : Int))) = Lib.len8 (q : Int) := by
    simp only at hl
    unfold wrap64
    omega
  rw [e] at h
  exact h
set_option maxHeartbeats 400000 in
theorem blen_any (q : Nat) (hq : q ≤ 255) : Calls Tryz.prog 85 #[.int .u64 (q : Int)] w fun e w' => e = .returned (.int .i64 (Lib.len8 (q : Int))) ∧ w = w' := by
  have H := Lib.hid (blen64_any w q hq)
  go_enter Tryz.func85, Tryz.ntmps85
  go_wp2_with fail
  refine H.out.mono ?_
  rintro e w1 ⟨rfl, rfl⟩
  go_wp2
  go_ret
  exact ⟨rfl, rfl⟩

theorem class_len : ∀ q : Fin 65, 1 ≤ q.1 → (q.1 < 2 ∧ Lib.len8 (q.1 : Int) = 1) ∨ (2 ≤ q.1 ∧ q.1 < 4 ∧ Lib.len8 (q.1 : Int) = 2) ∨ (4 ≤ q.1 ∧ q.1 < 8 ∧ Lib.len8 (q.1 : Int) = 3) ∨ (8 ≤ q.1 ∧ q.1 < 16 ∧ Lib.len8 (q.1 : Int) = 4) ∨ (16 ≤ q.1 ∧ q.1 < 32 ∧ Lib.len8 (q.1 : Int) = 5) ∨ (32 ≤ q.1 ∧ q.1 < 64 ∧ Lib.len8 (q.1 : Int) = 6) ∨ (q.1 = 64 ∧ Lib.len8 (q.1 : Int) = 7) := by decide +kernel
end

theorem nv_some {x : Int} {s : Nat} (h : x = (s : Int)) : Ending.returned (.tuple #[.int .i64 x, .bool true]) = .returned (needV (some s)) := by rw [h]; rfl

theorem needC : NeedC := by
  intro w n hn
  by_cases h : n ≤ 16368
  · obtain ⟨s, hs⟩ : ∃ s, needN n = some s := ⟨_, if_pos h⟩
    have e : s = max 32 ((n + 31) / 16 * 16) := by
      have h2 : needN n = some (max 32 ((n + 31) / 16 * 16)) := if_pos h
      rw [h2] at hs
      injection hs with hs
      exact hs.symm
    rw [hs]
    have E := Lib.hid (show s = max 32 ((n + 31) / 16 * 16) from e)
    clear hs e
    go_enter Tryz.func51, Tryz.ntmps51
    go_wp2
    all_goals (go_ret2; exact ⟨nv_some (by have := E.out; omega), Below.refl _ _⟩)
  · rw [show needN n = none from if_neg h]
    go_enter Tryz.func51, Tryz.ntmps51
    go_wp2
    go_ret2
    exact ⟨rfl, Below.refl _ _⟩

theorem classC : ClassC := by
  intro w s hs
  cases hb : isSz s
  · rw [show classI s = -1 by simp [classI, hb]]
    have HI := Lib.hid (cissize_any w s hs false hb)
    clear hb
    go_enter Tryz.func64, Tryz.ntmps64
    go_wp2_with fail
    with_reducible refine HI.out.mono ?_
    rintro e w1 ⟨rfl, rfl⟩
    go_wp2
    go_ret
    exact ⟨rfl, Below.refl _ _⟩
  · have h := (isSz_iff s).1 hb
    have HI := Lib.hid (cissize_any w s hs true hb)
    by_cases h0 : s ≤ 256
    · have e : (s - 32) / 16 = classI s := by
        unfold classI
        rw [if_neg (by simp [hb]), if_pos h0]
        omega
      obtain ⟨c, hc⟩ : ∃ c, classI s = c := ⟨_, rfl⟩
      rw [hc] at e ⊢
      have HC := Lib.hid e
      clear e hc hb
      go_enter Tryz.func64, Tryz.ntmps64
      go_wp2_with fail
      with_reducible refine HI.out.mono ?_
      rintro e w1 ⟨rfl, rfl⟩
      go_wp2
      go_ret
      exact ⟨rt_i HC.out, Below.refl _ _⟩
    · obtain ⟨q, hq⟩ : ∃ q : Nat, s / 256 = (q : Int) := ⟨(s / 256).toNat, by omega⟩
      have hq1 : 1 ≤ q ∧ q ≤ 64 := by omega
      have cl := class_len ⟨q, by omega⟩ hq1.1
      simp only at cl
      have e : 14 + Lib.len8 (q : Int) = classI s := by
        unfold classI
        rw [if_neg (by simp [hb]), if_neg h0]
        rcases cl with ⟨_, cl⟩ | ⟨_, _, cl⟩ | ⟨_, _, cl⟩ | ⟨_, _, cl⟩ | ⟨_, _, cl⟩ | ⟨_, _, cl⟩ | ⟨_, cl⟩ <;> rw [cl] <;> (repeat' split) <;> omega
      obtain ⟨c, hc⟩ : ∃ c, classI s = c := ⟨_, rfl⟩
      rw [hc] at e ⊢
      have hl := len8_le ⟨q, by omega⟩
      simp only at hl
      have HC := Lib.hid e
      have HL := Lib.hid (fun W => blen_any W q (by omega))
      clear e hc hb cl
      obtain ⟨l, hl8⟩ : ∃ l, Lib.len8 (q : Int) = l := ⟨_, rfl⟩
      rw [hl8] at HC HL hl
      clear hl8
      go_enter Tryz.func64, Tryz.ntmps64
      go_wp2_with fail
      with_reducible refine HI.out.mono ?_
      rintro e w1 ⟨rfl, rfl⟩
      go_wp2_with fail
      refine (HL.out _).mono ?_
      rintro e w1 ⟨rfl, rfl⟩
      go_wp2
      go_ret
      exact ⟨rt_i HC.out, Below.refl _ _⟩
end Go.Proofs.YtbldlidpapdkbaaGreat

/- The contracts of what the program's blocks are made of: isPlace, address, and an arena's Word at an offset. -/
namespace Go.Proofs.YtbldlidpapdkbaaGreat
open Go.RowKit

/-- What an offset means. -/
def adr (base : Nat) (o : Int) : Nat := (((base : Int) + o) % 18446744073709551616).toNat
theorem adr_lt (base : Nat) (o : Int) : adr base o < 18446744073709551616 := by unfold adr; omega
theorem adr_pos (base : Nat) (hb : base ≤ 4611686018427387904) (o : Nat) (ho : (o : Int) ≤ 9223372036854775807) : adr base (o : Int) = base + o := by unfold adr; omega
theorem adr_neg (base : Nat) (hb : base ≤ 4611686018427387904) (o : Int) (ho : -9223372036854775900 ≤ o ∧ o ≤ 9223372036854775807) (n k : Nat) (hn : n + k ≤ 1000000) (hk : 1 ≤ k) (h : o < 0 ∨ (n : Int) < o + k) : base ≤ adr base o → n < adr base o - base + k := by unfold adr; omega
/-- The number at an offset, or an error. -/
def wdV (o : Option Nat) : Value := match o with
  | some v => .tuple #[.int .u64 (v : Int), .nilIface]
  | none => .tuple #[.int .u64 0, .iface 55 (.int .i64 2)]
/-- May a block stand at o, as far as o tells? -/
def plc (o : Int) : Bool := decide (184 ≤ o) && (o % 16 == 8)
theorem plc_iff (o : Int) : plc o = true ↔ 184 ≤ o ∧ o % 16 = 8 := by simp [plc]

section
variable {w : World} {g base cap c : Nat} {A : Option Addr} {bs : List UInt8}
theorem word_at (h : Ar w 82 g base cap A c bs) (hb : base ≤ 4611686018427387904) (hl : bs.length ≤ 16384) (o : Int) (ho : -9223372036854775900 ≤ o ∧ o ≤ 9223372036854775807) (x : Option Nat) (hx : word? bs o = x) :
    Calls Tryz.prog 62 #[.pointer (some ⟨g, 0, none⟩), .int .u64 (adr base o : Int)] w fun e w' => e = .returned (wdV x) ∧ w = w' := by
  subst hx
  by_cases h1 : 0 ≤ o ∧ o + 8 ≤ bs.length
  · obtain ⟨p, rfl⟩ : ∃ p : Nat, o = (p : Int) := ⟨o.toNat, by omega⟩
    have e : word? bs (p : Int) = some (wordN bs p) := by unfold word?; rw [if_pos (by omega)]; rfl
    rw [e, adr_pos base hb p (by omega)]
    exact word_ok h (by omega) (base + p) p (by omega) (by omega) (by omega) (by omega)
  · have e : word? bs o = none := by unfold word?; rw [if_neg h1]
    rw [e]
    exact word_no h (by omega) (adr base o) (adr_lt _ _) (adr_neg base hb o ho bs.length 8 (by omega) (by omega) (by omega))

set_option maxHeartbeats 400000 in
theorem address_any (h : Ar w 82 g base cap A c bs) (o : Int) :
    Calls Tryz.prog 77 #[.pointer (some ⟨g, 0, none⟩), .int .i64 o] w fun e w' => e = .returned (.int .u64 (adr base o : Int)) ∧ w = w' := by
  have HB := Lib.hid (base_any h)
  go_enter Tryz.func77, Tryz.ntmps77
  go_wp2_with fail
  refine HB.out.mono ?_
  rintro e w1 ⟨rfl, rfl⟩
  go_wp2
  go_ret
  exact ⟨rt_i (by simp only [IntKind.wrap_u64]; unfold adr; omega), rfl⟩

set_option maxHeartbeats 400000 in
theorem isplace_any (w : World) (o : Int) (ho : -9223372036854775808 ≤ o ∧ o ≤ 9223372036854775807) (b : Bool) (hb : plc o = b) :
    Calls Tryz.prog 76 #[.int .i64 o] w fun e w' => e = .returned (.bool b) ∧ w = w' := by
  by_cases h1 : 184 ≤ o
  · have e : ((o - 184) % 16 == 0) = b := by
      rw [← hb]
      unfold plc
      rw [decide_eq_true h1, Bool.true_and, Bool.eq_iff_iff, beq_iff_eq, beq_iff_eq]
      omega
    have HE := Lib.hid e
    clear hb e
    go_enter Tryz.func76, Tryz.ntmps76
    go_wp2
    go_ret
    exact ⟨rt_b HE.out, rfl⟩
  · obtain rfl : false = b := by rw [← hb]; simp [plc, h1]
    clear hb
    go_enter Tryz.func76, Tryz.ntmps76
    go_wp2
    go_ret
    exact ⟨rfl, rfl⟩
end
end Go.Proofs.YtbldlidpapdkbaaGreat

/- The contract of the program's Get: the block at an offset, all ways. -/
namespace Go.Proofs.YtbldlidpapdkbaaGreat
open Go.RowKit

section
variable {w : World} {g base cap c : Nat} {A : Option Addr} {bs : List UInt8}
set_option maxHeartbeats 1000000 in
theorem get_1 (h : Ar w 82 g base cap A c bs) (o : Int) (ho : -9223372036854775808 ≤ o ∧ o ≤ 9223372036854775807) (hc : plc o = false) :
    Calls Tryz.prog 61 #[.pointer (some ⟨g, 0, none⟩), .int .i64 o] w fun e w' => e = .returned (.tuple #[bkV none, errV false 3]) ∧ Below w.heap.size w w' := by
  obtain ⟨w1, hw1⟩ : ∃ w1, w.alloc (.cells #[.int .i64 0, .int .i64 0, .bool false] 50) = w1 := ⟨_, rfl⟩
  have hb1 : Below w.heap.size w w1 := by rw [← hw1]; exact (Below.refl _ _).alloc (Nat.le_refl _) _
  have hn1 : w1.heap[w.heap.size]? = some (.cells #[.int .i64 0, .int .i64 0, .bool false] 50 (0, 0)) := by rw [← hw1]; exact heap_alloc_new w _
  have h1 := h.below hb1
  have HC := Lib.hid (isplace_any w1 o ho false hc)
  have HW1 := Lib.hid hw1
  have HB1 := Lib.hid hb1
  have HN1 := Lib.hid hn1
  clear hc hw1 hb1 hn1 h1 h
  go_enter Tryz.func61, Tryz.ntmps61
  go_wp2_with fail
  rw [HW1.out]
  with_reducible refine HC.out.mono ?_
  rintro e w2 ⟨rfl, rfl⟩
  obtain ⟨⟨c0, c1, c2⟩, f0, f1, f2⟩ := blk_cells HN1.out
  go_wp2
  (try simp only [Exit.inBlock, Exit.then])
  refine blk_ret (x := errV false 3) Tryz.results61 ?_ ?_ ?_ (blk_set HN1.out _ _ _) ?_
  · rfl
  · rfl
  · rfl
  · exact ⟨rfl, ((HB1.out.setCell (Nat.le_refl _) _).setCell (Nat.le_refl _) _).setCell (Nat.le_refl _) _⟩

set_option maxHeartbeats 1000000 in
theorem get_2 (h : Ar w 82 g base cap A c bs) (hb : base ≤ 4611686018427387904) (hl : bs.length ≤ 16384) (o : Int) (ho : -9223372036854775808 ≤ o ∧ o ≤ 9223372036854775807) (hc : plc o = true) (hv : word? bs o = none) :
    Calls Tryz.prog 61 #[.pointer (some ⟨g, 0, none⟩), .int .i64 o] w fun e w' => e = .returned (.tuple #[bkV none, errV false 3]) ∧ Below w.heap.size w w' := by
  obtain ⟨w1, hw1⟩ : ∃ w1, w.alloc (.cells #[.int .i64 0, .int .i64 0, .bool false] 50) = w1 := ⟨_, rfl⟩
  have hb1 : Below w.heap.size w w1 := by rw [← hw1]; exact (Below.refl _ _).alloc (Nat.le_refl _) _
  have hn1 : w1.heap[w.heap.size]? = some (.cells #[.int .i64 0, .int .i64 0, .bool false] 50 (0, 0)) := by rw [← hw1]; exact heap_alloc_new w _
  have h1 := h.below hb1
  have HC := Lib.hid (isplace_any w1 o ho true hc)
  have HA := Lib.hid (address_any h1 o)
  have hwd := word_at h1 hb hl o (by omega) _ hv
  dsimp only [wdV] at hwd
  have HW := Lib.hid hwd
  have HW1 := Lib.hid hw1
  have HB1 := Lib.hid hb1
  have HN1 := Lib.hid hn1
  clear hc hv hwd hw1 hb1 hn1 h1 h
  go_enter Tryz.func61, Tryz.ntmps61
  go_wp2_with fail
  rw [HW1.out]
  with_reducible refine HC.out.mono ?_
  rintro e w2 ⟨rfl, rfl⟩
  go_wp2_with fail
  with_reducible refine HA.out.mono ?_
  rintro e w2 ⟨rfl, rfl⟩
  go_wp2_with fail
  with_reducible refine HW.out.mono ?_
  rintro e w2 ⟨rfl, rfl⟩
  obtain ⟨⟨c0, c1, c2⟩, f0, f1, f2⟩ := blk_cells HN1.out
  go_wp2
  (try simp only [Exit.inBlock, Exit.then])
  refine blk_ret (x := errV false 3) Tryz.results61 ?_ ?_ ?_ (blk_set HN1.out _ _ _) ?_
  · rfl
  · rfl
  · rfl
  · exact ⟨rfl, ((HB1.out.setCell (Nat.le_refl _) _).setCell (Nat.le_refl _) _).setCell (Nat.le_refl _) _⟩

set_option maxHeartbeats 1000000 in
theorem get_3 (h : Ar w 82 g base cap A c bs) (hb : base ≤ 4611686018427387904) (hl : bs.length ≤ 16384) (o : Int) (ho : -9223372036854775808 ≤ o ∧ o ≤ 9223372036854775807) (hc : plc o = true) (v : Nat) (hvl : v < 18446744073709551616) (hv : word? bs o = some v) (hu : unpN v = none) :
    Calls Tryz.prog 61 #[.pointer (some ⟨g, 0, none⟩), .int .i64 o] w fun e w' => e = .returned (.tuple #[bkV none, errV false 3]) ∧ Below w.heap.size w w' := by
  obtain ⟨w1, hw1⟩ : ∃ w1, w.alloc (.cells #[.int .i64 0, .int .i64 0, .bool false] 50) = w1 := ⟨_, rfl⟩
  have hb1 : Below w.heap.size w w1 := by rw [← hw1]; exact (Below.refl _ _).alloc (Nat.le_refl _) _
  have hn1 : w1.heap[w.heap.size]? = some (.cells #[.int .i64 0, .int .i64 0, .bool false] 50 (0, 0)) := by rw [← hw1]; exact heap_alloc_new w _
  have h1 := h.below hb1
  have HC := Lib.hid (isplace_any w1 o ho true hc)
  have HA := Lib.hid (address_any h1 o)
  have hwd := word_at h1 hb hl o (by omega) _ hv
  dsimp only [wdV] at hwd
  have HW := Lib.hid hwd
  have hup := tunpack_any w1 v hvl
  rw [hu] at hup
  dsimp only [unpV] at hup
  have HU := Lib.hid hup
  have HW1 := Lib.hid hw1
  have HB1 := Lib.hid hb1
  have HN1 := Lib.hid hn1
  clear hc hv hwd hu hup hw1 hb1 hn1 h1 h
  go_enter Tryz.func61, Tryz.ntmps61
  go_wp2_with fail
  rw [HW1.out]
  with_reducible refine HC.out.mono ?_
  rintro e w2 ⟨rfl, rfl⟩
  go_wp2_with fail
  with_reducible refine HA.out.mono ?_
  rintro e w2 ⟨rfl, rfl⟩
  go_wp2_with fail
  with_reducible refine HW.out.mono ?_
  rintro e w2 ⟨rfl, rfl⟩
  go_wp2_with fail
  with_reducible refine HU.out.mono ?_
  rintro e w2 ⟨rfl, rfl⟩
  obtain ⟨⟨c0, c1, c2⟩, f0, f1, f2⟩ := blk_cells HN1.out
  go_wp2
  (try simp only [Exit.inBlock, Exit.then])
  refine blk_ret (x := errV false 3) Tryz.results61 ?_ ?_ ?_ (blk_set HN1.out _ _ _) ?_
  · rfl
  · rfl
  · rfl
  · exact ⟨rfl, ((HB1.out.setCell (Nat.le_refl _) _).setCell (Nat.le_refl _) _).setCell (Nat.le_refl _) _⟩

set_option maxHeartbeats 1000000 in
theorem get_4 (h : Ar w 82 g base cap A c bs) (hb : base ≤ 4611686018427387904) (hl : bs.length ≤ 16384) (o : Int) (ho : -9223372036854775808 ≤ o ∧ o ≤ 9223372036854775807) (hc : plc o = true) (v : Nat) (hvl : v < 18446744073709551616) (hv : word? bs o = some v) (s : Nat) (u : Bool) (hu : unpN v = some (s, u)) (hs : 32 ≤ s ∧ s ≤ 16384) (hob : 0 ≤ o ∧ o ≤ 16384) (hv2 : word? bs (o + (s : Int) - 8) = none) :
    Calls Tryz.prog 61 #[.pointer (some ⟨g, 0, none⟩), .int .i64 o] w fun e w' => e = .returned (.tuple #[bkV none, errV false 3]) ∧ Below w.heap.size w w' := by
  obtain ⟨w1, hw1⟩ : ∃ w1, w.alloc (.cells #[.int .i64 0, .int .i64 0, .bool false] 50) = w1 := ⟨_, rfl⟩
  have hb1 : Below w.heap.size w w1 := by rw [← hw1]; exact (Below.refl _ _).alloc (Nat.le_refl _) _
  have hn1 : w1.heap[w.heap.size]? = some (.cells #[.int .i64 0, .int .i64 0, .bool false] 50 (0, 0)) := by rw [← hw1]; exact heap_alloc_new w _
  have h1 := h.below hb1
  have HC := Lib.hid (isplace_any w1 o ho true hc)
  have HA := Lib.hid (address_any h1 o)
  have hwd := word_at h1 hb hl o (by omega) _ hv
  dsimp only [wdV] at hwd
  have HW := Lib.hid hwd
  have hup := tunpack_any w1 v hvl
  rw [hu] at hup
  dsimp only [unpV] at hup
  have HU := Lib.hid hup
  have HA2 := Lib.hid (address_any h1 (o + (s : Int) - 8))
  have hwd2 := word_at h1 hb hl (o + (s : Int) - 8) (by omega) _ hv2
  dsimp only [wdV] at hwd2
  have HW2 := Lib.hid hwd2
  have HW1 := Lib.hid hw1
  have HB1 := Lib.hid hb1
  have HN1 := Lib.hid hn1
  clear hc hv hwd hu hup hv2 hwd2 hw1 hb1 hn1 h1 h
  go_enter Tryz.func61, Tryz.ntmps61
  go_wp2_with fail
  rw [HW1.out]
  with_reducible refine HC.out.mono ?_
  rintro e w2 ⟨rfl, rfl⟩
  go_wp2_with fail
  with_reducible refine HA.out.mono ?_
  rintro e w2 ⟨rfl, rfl⟩
  go_wp2_with fail
  with_reducible refine HW.out.mono ?_
  rintro e w2 ⟨rfl, rfl⟩
  go_wp2_with fail
  with_reducible refine HU.out.mono ?_
  rintro e w2 ⟨rfl, rfl⟩
  go_wp2_with fail
  with_reducible refine HA2.out.mono ?_
  rintro e w2 ⟨rfl, rfl⟩
  go_wp2_with fail
  with_reducible refine HW2.out.mono ?_
  rintro e w2 ⟨rfl, rfl⟩
  obtain ⟨⟨c0, c1, c2⟩, f0, f1, f2⟩ := blk_cells HN1.out
  go_wp2
  (try simp only [Exit.inBlock, Exit.then])
  refine blk_ret (x := errV false 3) Tryz.results61 ?_ ?_ ?_ (blk_set HN1.out _ _ _) ?_
  · rfl
  · rfl
  · rfl
  · exact ⟨rfl, ((HB1.out.setCell (Nat.le_refl _) _).setCell (Nat.le_refl _) _).setCell (Nat.le_refl _) _⟩

set_option maxHeartbeats 1000000 in
theorem get_5 (h : Ar w 82 g base cap A c bs) (hb : base ≤ 4611686018427387904) (hl : bs.length ≤ 16384) (o : Int) (ho : -9223372036854775808 ≤ o ∧ o ≤ 9223372036854775807) (hc : plc o = true) (v : Nat) (hvl : v < 18446744073709551616) (hv : word? bs o = some v) (s : Nat) (u : Bool) (hu : unpN v = some (s, u)) (hs : 32 ≤ s ∧ s ≤ 16384) (hob : 0 ≤ o ∧ o ≤ 16384) (v2 : Nat) (hv2 : word? bs (o + (s : Int) - 8) = some v2) (hne : v2 ≠ v) :
    Calls Tryz.prog 61 #[.pointer (some ⟨g, 0, none⟩), .int .i64 o] w fun e w' => e = .returned (.tuple #[bkV none, errV false 3]) ∧ Below w.heap.size w w' := by
  obtain ⟨w1, hw1⟩ : ∃ w1, w.alloc (.cells #[.int .i64 0, .int .i64 0, .bool false] 50) = w1 := ⟨_, rfl⟩
  have hb1 : Below w.heap.size w w1 := by rw [← hw1]; exact (Below.refl _ _).alloc (Nat.le_refl _) _
  have hn1 : w1.heap[w.heap.size]? = some (.cells #[.int .i64 0, .int .i64 0, .bool false] 50 (0, 0)) := by rw [← hw1]; exact heap_alloc_new w _
  have h1 := h.below hb1
  have HC := Lib.hid (isplace_any w1 o ho true hc)
  have HA := Lib.hid (address_any h1 o)
  have hwd := word_at h1 hb hl o (by omega) _ hv
  dsimp only [wdV] at hwd
  have HW := Lib.hid hwd
  have hup := tunpack_any w1 v hvl
  rw [hu] at hup
  dsimp only [unpV] at hup
  have HU := Lib.hid hup
  have HA2 := Lib.hid (address_any h1 (o + (s : Int) - 8))
  have hwd2 := word_at h1 hb hl (o + (s : Int) - 8) (by omega) _ hv2
  dsimp only [wdV] at hwd2
  have HW2 := Lib.hid hwd2
  have hq : ((v2 : Int) != (v : Int)) = true := by rw [bne_iff_ne]; omega
  have HW1 := Lib.hid hw1
  have HB1 := Lib.hid hb1
  have HN1 := Lib.hid hn1
  clear hc hv hwd hu hup hv2 hwd2 hne hw1 hb1 hn1 h1 h
  go_enter Tryz.func61, Tryz.ntmps61
  go_wp2_with fail
  rw [HW1.out]
  with_reducible refine HC.out.mono ?_
  rintro e w2 ⟨rfl, rfl⟩
  go_wp2_with fail
  with_reducible refine HA.out.mono ?_
  rintro e w2 ⟨rfl, rfl⟩
  go_wp2_with fail
  with_reducible refine HW.out.mono ?_
  rintro e w2 ⟨rfl, rfl⟩
  go_wp2_with fail
  with_reducible refine HU.out.mono ?_
  rintro e w2 ⟨rfl, rfl⟩
  go_wp2_with fail
  with_reducible refine HA2.out.mono ?_
  rintro e w2 ⟨rfl, rfl⟩
  go_wp2_with fail
  with_reducible refine HW2.out.mono ?_
  rintro e w2 ⟨rfl, rfl⟩
  obtain ⟨⟨c0, c1, c2⟩, f0, f1, f2⟩ := blk_cells HN1.out
  go_wp2
  (try simp only [Exit.inBlock, Exit.then])
  refine blk_ret (x := errV false 3) Tryz.results61 ?_ ?_ ?_ (blk_set HN1.out _ _ _) ?_
  · rfl
  · rfl
  · rfl
  · exact ⟨rfl, ((HB1.out.setCell (Nat.le_refl _) _).setCell (Nat.le_refl _) _).setCell (Nat.le_refl _) _⟩

set_option maxHeartbeats 1000000 in
theorem get_6 (h : Ar w 82 g base cap A c bs) (hb : base ≤ 4611686018427387904) (hl : bs.length ≤ 16384) (o : Nat) (ho : -9223372036854775808 ≤ (o : Int) ∧ (o : Int) ≤ 9223372036854775807) (hc : plc (o : Int) = true) (v : Nat) (hvl : v < 18446744073709551616) (hv : word? bs (o : Int) = some v) (s : Nat) (u : Bool) (hu : unpN v = some (s, u)) (hs : 32 ≤ s ∧ s ≤ 16384) (hob : 0 ≤ (o : Int) ∧ (o : Int) ≤ 16384) (hv2 : word? bs ((o : Int) + (s : Int) - 8) = some v) :
    Calls Tryz.prog 61 #[.pointer (some ⟨g, 0, none⟩), .int .i64 (o : Int)] w fun e w' => e = .returned (.tuple #[bkV (some ⟨o, s, u⟩), errV true 3]) ∧ Below w.heap.size w w' := by
  obtain ⟨w1, hw1⟩ : ∃ w1, w.alloc (.cells #[.int .i64 0, .int .i64 0, .bool false] 50) = w1 := ⟨_, rfl⟩
  have hb1 : Below w.heap.size w w1 := by rw [← hw1]; exact (Below.refl _ _).alloc (Nat.le_refl _) _
  have hn1 : w1.heap[w.heap.size]? = some (.cells #[.int .i64 0, .int .i64 0, .bool false] 50 (0, 0)) := by rw [← hw1]; exact heap_alloc_new w _
  have h1 := h.below hb1
  have HC := Lib.hid (isplace_any w1 (o : Int) ho true hc)
  have HA := Lib.hid (address_any h1 (o : Int))
  have hwd := word_at h1 hb hl (o : Int) (by omega) _ hv
  dsimp only [wdV] at hwd
  have HW := Lib.hid hwd
  have hup := tunpack_any w1 v hvl
  rw [hu] at hup
  dsimp only [unpV] at hup
  have HU := Lib.hid hup
  have HA2 := Lib.hid (address_any h1 ((o : Int) + (s : Int) - 8))
  have hwd2 := word_at h1 hb hl ((o : Int) + (s : Int) - 8) (by omega) _ hv2
  dsimp only [wdV] at hwd2
  have HW2 := Lib.hid hwd2
  have HW1 := Lib.hid hw1
  have HB1 := Lib.hid hb1
  have HN1 := Lib.hid hn1
  clear hc hv hwd hu hup hv2 hwd2 hw1 hb1 hn1 h1 h
  go_enter Tryz.func61, Tryz.ntmps61
  go_wp2_with fail
  rw [HW1.out]
  with_reducible refine HC.out.mono ?_
  rintro e w2 ⟨rfl, rfl⟩
  go_wp2_with fail
  with_reducible refine HA.out.mono ?_
  rintro e w2 ⟨rfl, rfl⟩
  go_wp2_with fail
  with_reducible refine HW.out.mono ?_
  rintro e w2 ⟨rfl, rfl⟩
  go_wp2_with fail
  with_reducible refine HU.out.mono ?_
  rintro e w2 ⟨rfl, rfl⟩
  go_wp2_with fail
  with_reducible refine HA2.out.mono ?_
  rintro e w2 ⟨rfl, rfl⟩
  go_wp2_with fail
  with_reducible refine HW2.out.mono ?_
  rintro e w2 ⟨rfl, rfl⟩
  obtain ⟨⟨c0, c1, c2⟩, f0, f1, f2⟩ := blk_cells HN1.out
  go_wp2
  (try simp only [Exit.inBlock, Exit.then])
  refine blk_ret (x := errV true 3) Tryz.results61 ?_ ?_ ?_ (blk_set HN1.out _ _ _) ?_
  · rfl
  · rfl
  · rfl
  · exact ⟨rfl, ((HB1.out.setCell (Nat.le_refl _) _).setCell (Nat.le_refl _) _).setCell (Nat.le_refl _) _⟩

end
theorem getC : GetC := by
  intro w g base cap c A bs o x h hb hl ho hx
  subst hx
  unfold BlkTold
  cases hc : plc o with
  | false =>
    have e : getB bs o = none := by
      unfold getB
      rw [if_pos]
      rw [Bool.eq_false_iff]
      intro h2
      have := (could_iff _ _ _).1 h2
      rw [(plc_iff o).2 (by omega)] at hc
      cases hc
    rw [e]
    exact get_1 h o ho hc
  | true =>
    have hp := (plc_iff o).1 hc
    obtain ⟨p, rfl⟩ : ∃ p : Nat, o = (p : Int) := ⟨o.toNat, by omega⟩
    by_cases h8 : p + 8 ≤ bs.length
    · have hcd : could bs.length (p : Int) 8 = true := (could_iff _ _ _).2 (by omega)
      have hv : word? bs (p : Int) = some (wordN bs p) := by unfold word?; rw [if_pos (by omega)]; rfl
      cases hu : unpN (wordN bs p) with
      | none =>
        have e : getB bs (p : Int) = none := by unfold getB; rw [if_neg (by rw [hcd]; simp), Int.toNat_natCast, hu]
        rw [e]
        exact get_3 h hb hl (p : Int) ho hc _ (wordN_lt _ _) hv hu
      | some su =>
        obtain ⟨s, u⟩ := su
        have hss := (isSz_iff _).1 (unpN_some hu).1
        cases hc2 : could bs.length (p : Int) (s : Int) with
        | false =>
          have e : getB bs (p : Int) = none := by unfold getB; rw [if_neg (by rw [hcd]; simp), Int.toNat_natCast, hu]; dsimp only; rw [if_pos hc2]
          rw [e]
          refine get_4 h hb hl (p : Int) ho hc _ (wordN_lt _ _) hv s u hu (by omega) (by omega) ?_
          unfold word?
          rw [if_neg]
          intro h2
          rw [(could_iff _ _ _).2 (by omega)] at hc2
          cases hc2
        | true =>
          have hb2 := (could_iff _ _ _).1 hc2
          have hv2 : word? bs ((p : Int) + (s : Int) - 8) = some (wordN bs (p + s - 8)) := by
            unfold word?
            rw [if_pos (by omega), show ((p : Int) + (s : Int) - 8).toNat = p + s - 8 by omega]
          by_cases hw : wordN bs (p + s - 8) = wordN bs p
          · have e : getB bs (p : Int) = some ⟨p, s, u⟩ := by unfold getB; rw [if_neg (by rw [hcd]; simp), Int.toNat_natCast, hu]; dsimp only; rw [if_neg (by rw [hc2]; simp), if_pos hw]
            rw [e]
            rw [hw] at hv2
            exact get_6 h hb hl p ho hc _ (wordN_lt _ _) hv s u hu (by omega) (by omega) hv2
          · have e : getB bs (p : Int) = none := by unfold getB; rw [if_neg (by rw [hcd]; simp), Int.toNat_natCast, hu]; dsimp only; rw [if_neg (by rw [hc2]; simp), if_neg hw]
            rw [e]
            exact get_5 h hb hl (p : Int) ho hc _ (wordN_lt _ _) hv s u hu (by omega) (by omega) _ hv2 hw
    · have e : getB bs (p : Int) = none := by
        unfold getB
        rw [if_pos]
        rw [Bool.eq_false_iff]
        intro h2
        have := (could_iff _ _ _).1 h2
        omega
      rw [e]
      exact get_2 h hb hl (p : Int) ho hc (by unfold word?; rw [if_neg (by omega)])
end Go.Proofs.YtbldlidpapdkbaaGreat

/- The contract of the program's Ahead: the block that ends at an offset, all ways. -/
namespace Go.Proofs.YtbldlidpapdkbaaGreat
open Go.RowKit

/-- What Ahead tells, said by what it asks. -/
theorem aheadB_eq (bs : List UInt8) (o : Int) : aheadB bs o = (match word? bs (o - 8) with
  | none => none
  | some v => match unpN v with
    | none => none
    | some (s, _) => match getB bs (o - (s : Int)) with
      | none => none
      | some x => if x.size = s then some x else none) := by
  by_cases h0 : o < 8 ∨ (bs.length : Int) < o
  · have e : word? bs (o - 8) = none := by unfold word?; rw [if_neg (by omega)]
    rw [e]
    unfold aheadB
    rw [if_pos (by omega)]
  · obtain ⟨p, rfl⟩ : ∃ p : Nat, o = (p : Int) := ⟨o.toNat, by omega⟩
    have e : word? bs ((p : Int) - 8) = some (wordN bs (p - 8)) := by
      unfold word?
      rw [if_pos (by omega), show ((p : Int) - 8).toNat = p - 8 by omega]
    rw [e]
    dsimp only
    by_cases h1 : (p : Int) < 184
    · unfold aheadB
      rw [if_pos (by omega)]
      cases hu : unpN (wordN bs (p - 8)) with
      | none => rfl
      | some su =>
        obtain ⟨s, u⟩ := su
        dsimp only
        cases hx : getB bs ((p : Int) - (s : Int)) with
        | none => rfl
        | some x =>
          have := getB_some hx
          omega
    · unfold aheadB
      rw [if_neg (by omega), Int.toNat_natCast]
      cases hu : unpN (wordN bs (p - 8)) with
      | none => rfl
      | some su =>
        obtain ⟨s, u⟩ := su
        dsimp only
        cases hx : getB bs ((p : Int) - (s : Int)) with
        | none => rfl
        | some x =>
          dsimp only
          obtain ⟨q1, q2, q3, q4, q5, q6, q7⟩ := getB_some hx
          by_cases hs : x.size = s
          · have e2 : x.off + x.size - 8 = p - 8 := by omega
            rw [e2] at q7
            rw [← q7, hu] at q6
            injection q6 with q6
            injection q6 with q6 q8
            rw [if_pos ⟨hs, q8.symm⟩, if_pos hs]
          · rw [if_neg (fun h => hs h.1), if_neg hs]

section
variable {w : World} {g base cap c : Nat} {A : Option Addr} {bs : List UInt8}
set_option maxHeartbeats 1000000 in
theorem ahead_1 (h : Ar w 82 g base cap A c bs) (hb : base ≤ 4611686018427387904) (hl : bs.length ≤ 16384) (o : Int) (ho : -9223372036854775808 ≤ o ∧ o ≤ 9223372036854775807) (hv : word? bs (o - 8) = none) :
    Calls Tryz.prog 89 #[.pointer (some ⟨g, 0, none⟩), .int .i64 o] w fun e w' => e = .returned (.tuple #[bkV none, errV false 3]) ∧ Below w.heap.size w w' := by
  obtain ⟨w1, hw1⟩ : ∃ w1, w.alloc (.cells #[.int .i64 0, .int .i64 0, .bool false] 50) = w1 := ⟨_, rfl⟩
  have hb1 : Below w.heap.size w w1 := by rw [← hw1]; exact (Below.refl _ _).alloc (Nat.le_refl _) _
  have hn1 : w1.heap[w.heap.size]? = some (.cells #[.int .i64 0, .int .i64 0, .bool false] 50 (0, 0)) := by rw [← hw1]; exact heap_alloc_new w _
  have h1 := h.below hb1
  have HA := Lib.hid (address_any h1 o)
  have hs8 : IntKind.u64.wrap ((adr base o : Int) - 8) = (adr base (o - 8) : Int) := by rw [IntKind.wrap_u64]; unfold adr; omega
  have HS8 := Lib.hid hs8
  have hwd := word_at h1 hb hl (o - 8) (by omega) _ hv
  dsimp only [wdV] at hwd
  have HW := Lib.hid hwd
  have HW1 := Lib.hid hw1
  have HB1 := Lib.hid hb1
  have HN1 := Lib.hid hn1
  clear hv hwd hs8 hw1 hb1 hn1 h1 h
  go_enter Tryz.func89, Tryz.ntmps89
  go_wp2_with fail
  rw [HW1.out]
  with_reducible refine HA.out.mono ?_
  rintro e w2 ⟨rfl, rfl⟩
  go_wp2_with fail
  rw [HS8.out]
  with_reducible refine HW.out.mono ?_
  rintro e w2 ⟨rfl, rfl⟩
  have hlt := heap_lt' HN1.out
  obtain ⟨⟨c0, c1, c2⟩, f0, f1, f2⟩ := blk_cells HN1.out
  go_wp2
  (try simp only [Exit.inBlock, Exit.then])
  refine blk_ret (x := errV false 3) (g := w.heap.size) (o := 0) (s := 0) (b := false) Tryz.results89 ?_ ?_ ?_ ?_ ?_
  · rfl
  · rfl
  · rfl
  · exact blk_set HN1.out _ _ _
  · exact ⟨rfl, ((HB1.out.setCell (Nat.le_refl _) _).setCell (Nat.le_refl _) _).setCell (Nat.le_refl _) _⟩

set_option maxHeartbeats 1000000 in
theorem ahead_2 (h : Ar w 82 g base cap A c bs) (hb : base ≤ 4611686018427387904) (hl : bs.length ≤ 16384) (o : Int) (ho : -9223372036854775808 ≤ o ∧ o ≤ 9223372036854775807) (v : Nat) (hvl : v < 18446744073709551616) (hv : word? bs (o - 8) = some v) (hu : unpN v = none) :
    Calls Tryz.prog 89 #[.pointer (some ⟨g, 0, none⟩), .int .i64 o] w fun e w' => e = .returned (.tuple #[bkV none, errV false 3]) ∧ Below w.heap.size w w' := by
  obtain ⟨w1, hw1⟩ : ∃ w1, w.alloc (.cells #[.int .i64 0, .int .i64 0, .bool false] 50) = w1 := ⟨_, rfl⟩
  have hb1 : Below w.heap.size w w1 := by rw [← hw1]; exact (Below.refl _ _).alloc (Nat.le_refl _) _
  have hn1 : w1.heap[w.heap.size]? = some (.cells #[.int .i64 0, .int .i64 0, .bool false] 50 (0, 0)) := by rw [← hw1]; exact heap_alloc_new w _
  have h1 := h.below hb1
  have HA := Lib.hid (address_any h1 o)
  have hs8 : IntKind.u64.wrap ((adr base o : Int) - 8) = (adr base (o - 8) : Int) := by rw [IntKind.wrap_u64]; unfold adr; omega
  have HS8 := Lib.hid hs8
  have hwd := word_at h1 hb hl (o - 8) (by omega) _ hv
  dsimp only [wdV] at hwd
  have HW := Lib.hid hwd
  have hup := tunpack_any w1 v hvl
  rw [hu] at hup
  dsimp only [unpV] at hup
  have HU := Lib.hid hup
  have HW1 := Lib.hid hw1
  have HB1 := Lib.hid hb1
  have HN1 := Lib.hid hn1
  clear hv hwd hu hup hs8 hw1 hb1 hn1 h1 h
  go_enter Tryz.func89, Tryz.ntmps89
  go_wp2_with fail
  rw [HW1.out]
  with_reducible refine HA.out.mono ?_
  rintro e w2 ⟨rfl, rfl⟩
  go_wp2_with fail
  rw [HS8.out]
  with_reducible refine HW.out.mono ?_
  rintro e w2 ⟨rfl, rfl⟩
  go_wp2_with fail
  with_reducible refine HU.out.mono ?_
  rintro e w2 ⟨rfl, rfl⟩
  have hlt := heap_lt' HN1.out
  obtain ⟨⟨c0, c1, c2⟩, f0, f1, f2⟩ := blk_cells HN1.out
  go_wp2
  (try simp only [Exit.inBlock, Exit.then])
  refine blk_ret (x := errV false 3) (g := w.heap.size) (o := 0) (s := 0) (b := false) Tryz.results89 ?_ ?_ ?_ ?_ ?_
  · rfl
  · rfl
  · rfl
  · exact blk_set HN1.out _ _ _
  · exact ⟨rfl, ((HB1.out.setCell (Nat.le_refl _) _).setCell (Nat.le_refl _) _).setCell (Nat.le_refl _) _⟩

set_option maxHeartbeats 1000000 in
theorem ahead_3 (h : Ar w 82 g base cap A c bs) (hb : base ≤ 4611686018427387904) (hl : bs.length ≤ 16384) (o : Int) (ho : -9223372036854775808 ≤ o ∧ o ≤ 9223372036854775807) (v : Nat) (hvl : v < 18446744073709551616) (hv : word? bs (o - 8) = some v) (s : Nat) (u : Bool) (hu : unpN v = some (s, u)) (hs : 32 ≤ s ∧ s ≤ 16384) (hob : 0 ≤ o ∧ o ≤ 16384) (hx : getB bs (o - (s : Int)) = none) :
    Calls Tryz.prog 89 #[.pointer (some ⟨g, 0, none⟩), .int .i64 o] w fun e w' => e = .returned (.tuple #[bkV none, errV false 3]) ∧ Below w.heap.size w w' := by
  obtain ⟨w1, hw1⟩ : ∃ w1, w.alloc (.cells #[.int .i64 0, .int .i64 0, .bool false] 50) = w1 := ⟨_, rfl⟩
  have hb1 : Below w.heap.size w w1 := by rw [← hw1]; exact (Below.refl _ _).alloc (Nat.le_refl _) _
  have hn1 : w1.heap[w.heap.size]? = some (.cells #[.int .i64 0, .int .i64 0, .bool false] 50 (0, 0)) := by rw [← hw1]; exact heap_alloc_new w _
  have h1 := h.below hb1
  have HA := Lib.hid (address_any h1 o)
  have hs8 : IntKind.u64.wrap ((adr base o : Int) - 8) = (adr base (o - 8) : Int) := by rw [IntKind.wrap_u64]; unfold adr; omega
  have HS8 := Lib.hid hs8
  have hwd := word_at h1 hb hl (o - 8) (by omega) _ hv
  dsimp only [wdV] at hwd
  have HW := Lib.hid hwd
  have hup := tunpack_any w1 v hvl
  rw [hu] at hup
  dsimp only [unpV] at hup
  have HU := Lib.hid hup
  have hg := getC w1 g base cap c A bs (o - (s : Int)) _ h1 hb hl (by omega) hx
  dsimp only [BlkTold, bkV, Bk.val, Option.isSome, errV] at hg
  have HG := Lib.hid hg
  have HW1 := Lib.hid hw1
  have HB1 := Lib.hid hb1
  have HN1 := Lib.hid hn1
  clear hv hwd hu hup hx hg hs8 hw1 hb1 hn1 h1 h
  go_enter Tryz.func89, Tryz.ntmps89
  go_wp2_with fail
  rw [HW1.out]
  with_reducible refine HA.out.mono ?_
  rintro e w2 ⟨rfl, rfl⟩
  go_wp2_with fail
  rw [HS8.out]
  with_reducible refine HW.out.mono ?_
  rintro e w2 ⟨rfl, rfl⟩
  go_wp2_with fail
  with_reducible refine HU.out.mono ?_
  rintro e w2 ⟨rfl, rfl⟩
  go_wp2_with fail
  with_reducible refine HG.out.mono ?_
  rintro e w2 ⟨rfl, hb2⟩
  have hlt := Nat.lt_of_lt_of_le (heap_lt' HN1.out) hb2.size
  have hn2 := (hb2.block _ (heap_lt' HN1.out)).trans HN1.out
  have hb02 : Below w.heap.size w w2 := HB1.out.trans (hb2.mono HB1.out.size)
  obtain ⟨⟨c0, c1, c2⟩, f0, f1, f2⟩ := blk_cells hn2
  have HN2 := Lib.hid hn2
  have HB2 := Lib.hid hb02
  clear hn2 hb02 hb2
  go_wp2
  (try simp only [Exit.inBlock, Exit.then])
  refine blk_ret (x := errV false 3) (g := w.heap.size) (o := 0) (s := 0) (b := false) Tryz.results89 ?_ ?_ ?_ ?_ ?_
  · rfl
  · rfl
  · rfl
  · exact (((Below.refl _ _).alloc (Nat.le_refl _) _).block _ (by simp [World.setCell]; omega)).trans (blk_set HN2.out _ _ _)
  · exact ⟨rfl, (((HB2.out.setCell (Nat.le_refl _) _).setCell (Nat.le_refl _) _).setCell (Nat.le_refl _) _).alloc (by simp [World.setCell]; omega) _⟩

set_option maxHeartbeats 1000000 in
theorem ahead_4 (h : Ar w 82 g base cap A c bs) (hb : base ≤ 4611686018427387904) (hl : bs.length ≤ 16384) (o : Int) (ho : -9223372036854775808 ≤ o ∧ o ≤ 9223372036854775807) (v : Nat) (hvl : v < 18446744073709551616) (hv : word? bs (o - 8) = some v) (s : Nat) (u : Bool) (hu : unpN v = some (s, u)) (hs : 32 ≤ s ∧ s ≤ 16384) (hob : 0 ≤ o ∧ o ≤ 16384) (xo xs : Nat) (xu : Bool) (hx : getB bs (o - (s : Int)) = some ⟨xo, xs, xu⟩) (hne : xs ≠ s) :
    Calls Tryz.prog 89 #[.pointer (some ⟨g, 0, none⟩), .int .i64 o] w fun e w' => e = .returned (.tuple #[bkV none, errV false 3]) ∧ Below w.heap.size w w' := by
  obtain ⟨w1, hw1⟩ : ∃ w1, w.alloc (.cells #[.int .i64 0, .int .i64 0, .bool false] 50) = w1 := ⟨_, rfl⟩
  have hb1 : Below w.heap.size w w1 := by rw [← hw1]; exact (Below.refl _ _).alloc (Nat.le_refl _) _
  have hn1 : w1.heap[w.heap.size]? = some (.cells #[.int .i64 0, .int .i64 0, .bool false] 50 (0, 0)) := by rw [← hw1]; exact heap_alloc_new w _
  have h1 := h.below hb1
  have HA := Lib.hid (address_any h1 o)
  have hs8 : IntKind.u64.wrap ((adr base o : Int) - 8) = (adr base (o - 8) : Int) := by rw [IntKind.wrap_u64]; unfold adr; omega
  have HS8 := Lib.hid hs8
  have hwd := word_at h1 hb hl (o - 8) (by omega) _ hv
  dsimp only [wdV] at hwd
  have HW := Lib.hid hwd
  have hup := tunpack_any w1 v hvl
  rw [hu] at hup
  dsimp only [unpV] at hup
  have HU := Lib.hid hup
  have hg := getC w1 g base cap c A bs (o - (s : Int)) _ h1 hb hl (by omega) hx
  dsimp only [BlkTold, bkV, Bk.val, Option.isSome, errV] at hg
  have HG := Lib.hid hg
  have hq : ((xs : Int) != (s : Int)) = true := by rw [bne_iff_ne]; omega
  have HW1 := Lib.hid hw1
  have HB1 := Lib.hid hb1
  have HN1 := Lib.hid hn1
  clear hv hwd hu hup hx hg hne hs8 hw1 hb1 hn1 h1 h
  go_enter Tryz.func89, Tryz.ntmps89
  go_wp2_with fail
  rw [HW1.out]
  with_reducible refine HA.out.mono ?_
  rintro e w2 ⟨rfl, rfl⟩
  go_wp2_with fail
  rw [HS8.out]
  with_reducible refine HW.out.mono ?_
  rintro e w2 ⟨rfl, rfl⟩
  go_wp2_with fail
  with_reducible refine HU.out.mono ?_
  rintro e w2 ⟨rfl, rfl⟩
  go_wp2_with fail
  with_reducible refine HG.out.mono ?_
  rintro e w2 ⟨rfl, hb2⟩
  have hlt := Nat.lt_of_lt_of_le (heap_lt' HN1.out) hb2.size
  have hn2 := (hb2.block _ (heap_lt' HN1.out)).trans HN1.out
  have hb02 : Below w.heap.size w w2 := HB1.out.trans (hb2.mono HB1.out.size)
  obtain ⟨⟨c0, c1, c2⟩, f0, f1, f2⟩ := blk_cells hn2
  have HN2 := Lib.hid hn2
  have HB2 := Lib.hid hb02
  clear hn2 hb02 hb2
  go_wp2
  (try simp only [Exit.inBlock, Exit.then])
  refine blk_ret (x := errV false 3) (g := w.heap.size) (o := 0) (s := 0) (b := false) Tryz.results89 ?_ ?_ ?_ ?_ ?_
  · rfl
  · rfl
  · rfl
  · exact (((Below.refl _ _).alloc (Nat.le_refl _) _).block _ (by simp [World.setCell]; omega)).trans (blk_set HN2.out _ _ _)
  · exact ⟨rfl, (((HB2.out.setCell (Nat.le_refl _) _).setCell (Nat.le_refl _) _).setCell (Nat.le_refl _) _).alloc (by simp [World.setCell]; omega) _⟩

set_option maxHeartbeats 1000000 in
theorem ahead_5 (h : Ar w 82 g base cap A c bs) (hb : base ≤ 4611686018427387904) (hl : bs.length ≤ 16384) (o : Int) (ho : -9223372036854775808 ≤ o ∧ o ≤ 9223372036854775807) (v : Nat) (hvl : v < 18446744073709551616) (hv : word? bs (o - 8) = some v) (s : Nat) (u : Bool) (hu : unpN v = some (s, u)) (hs : 32 ≤ s ∧ s ≤ 16384) (hob : 0 ≤ o ∧ o ≤ 16384) (xo : Nat) (xu : Bool) (hx : getB bs (o - (s : Int)) = some ⟨xo, s, xu⟩) :
    Calls Tryz.prog 89 #[.pointer (some ⟨g, 0, none⟩), .int .i64 o] w fun e w' => e = .returned (.tuple #[bkV (some ⟨xo, s, xu⟩), errV true 3]) ∧ Below w.heap.size w w' := by
  obtain ⟨w1, hw1⟩ : ∃ w1, w.alloc (.cells #[.int .i64 0, .int .i64 0, .bool false] 50) = w1 := ⟨_, rfl⟩
  have hb1 : Below w.heap.size w w1 := by rw [← hw1]; exact (Below.refl _ _).alloc (Nat.le_refl _) _
  have hn1 : w1.heap[w.heap.size]? = some (.cells #[.int .i64 0, .int .i64 0, .bool false] 50 (0, 0)) := by rw [← hw1]; exact heap_alloc_new w _
  have h1 := h.below hb1
  have HA := Lib.hid (address_any h1 o)
  have hs8 : IntKind.u64.wrap ((adr base o : Int) - 8) = (adr base (o - 8) : Int) := by rw [IntKind.wrap_u64]; unfold adr; omega
  have HS8 := Lib.hid hs8
  have hwd := word_at h1 hb hl (o - 8) (by omega) _ hv
  dsimp only [wdV] at hwd
  have HW := Lib.hid hwd
  have hup := tunpack_any w1 v hvl
  rw [hu] at hup
  dsimp only [unpV] at hup
  have HU := Lib.hid hup
  have hg := getC w1 g base cap c A bs (o - (s : Int)) _ h1 hb hl (by omega) hx
  dsimp only [BlkTold, bkV, Bk.val, Option.isSome, errV] at hg
  have HG := Lib.hid hg
  have HW1 := Lib.hid hw1
  have HB1 := Lib.hid hb1
  have HN1 := Lib.hid hn1
  clear hv hwd hu hup hx hg hs8 hw1 hb1 hn1 h1 h
  go_enter Tryz.func89, Tryz.ntmps89
  go_wp2_with fail
  rw [HW1.out]
  with_reducible refine HA.out.mono ?_
  rintro e w2 ⟨rfl, rfl⟩
  go_wp2_with fail
  rw [HS8.out]
  with_reducible refine HW.out.mono ?_
  rintro e w2 ⟨rfl, rfl⟩
  go_wp2_with fail
  with_reducible refine HU.out.mono ?_
  rintro e w2 ⟨rfl, rfl⟩
  go_wp2_with fail
  with_reducible refine HG.out.mono ?_
  rintro e w2 ⟨rfl, hb2⟩
  have hlt := Nat.lt_of_lt_of_le (heap_lt' HN1.out) hb2.size
  have hn2 := (hb2.block _ (heap_lt' HN1.out)).trans HN1.out
  have hb02 : Below w.heap.size w w2 := HB1.out.trans (hb2.mono HB1.out.size)
  obtain ⟨⟨c0, c1, c2⟩, f0, f1, f2⟩ := blk_cells hn2
  have HN2 := Lib.hid hn2
  have HB2 := Lib.hid hb02
  clear hn2 hb02 hb2
  go_wp2
  (try simp only [Exit.inBlock, Exit.then])
  refine blk_ret (x := errV true 3) (g := w.heap.size) (o := (xo : Int)) (s := (s : Int)) (b := xu) Tryz.results89 ?_ ?_ ?_ ?_ ?_
  · rfl
  · rfl
  · rfl
  · exact (((Below.refl _ _).alloc (Nat.le_refl _) _).block _ (by simp [World.setCell]; omega)).trans (blk_set HN2.out _ _ _)
  · exact ⟨rfl, (((HB2.out.setCell (Nat.le_refl _) _).setCell (Nat.le_refl _) _).setCell (Nat.le_refl _) _).alloc (by simp [World.setCell]; omega) _⟩

end
theorem aheadC : AheadC := by
  intro w g base cap c A bs o x h hb hl ho hx
  subst hx
  unfold BlkTold
  rw [aheadB_eq]
  cases hv : word? bs (o - 8) with
  | none => exact ahead_1 h hb hl o ho hv
  | some v =>
    have h8 : 0 ≤ o - 8 ∧ o - 8 + 8 ≤ bs.length := by
      unfold word? at hv
      split at hv
      · assumption
      · cases hv
    have hvl : v < 18446744073709551616 := by
      have hvi : some (wordN bs (o - 8).toNat) = some v := by rw [← hv]; unfold word?; rw [if_pos h8]
      rw [← Option.some.inj hvi]
      exact wordN_lt _ _
    dsimp only
    cases hu : unpN v with
    | none => exact ahead_2 h hb hl o ho v hvl hv hu
    | some su =>
      obtain ⟨s, u⟩ := su
      have hss := (isSz_iff _).1 (unpN_some hu).1
      dsimp only
      cases hx : getB bs (o - (s : Int)) with
      | none => exact ahead_3 h hb hl o ho v hvl hv s u hu (by omega) (by omega) hx
      | some x =>
        obtain ⟨xo, xs, xu⟩ := x
        dsimp only
        by_cases hs : xs = s
        · subst hs
          rw [if_pos rfl]
          exact ahead_5 h hb hl o ho v hvl hv xs u hu (by omega) (by omega) xo xu hx
        · rw [if_neg hs]
          exact ahead_4 h hb hl o ho v hvl hv s u hu (by omega) (by omega) xo xs xu hx hs
end Go.Proofs.YtbldlidpapdkbaaGreat
