/- Texts of mine, joined: Law07e, Spec9, Lst1, Lst2, Lst3, Lst4, Lst6, Law09a, Ls, FirstM, Law09c, Spec10, Fit1, Fit2, Fit3, Law10a, Law10b. -/
import Derived.Great.BuildSlice
import Derived.Test.YtcjjpffkmajehaaM6

/- The walk of BlockBack. -/
namespace Go.Proofs.Ytcjjpffkmajehaa
open Go.RowKit

theorem Boo.keep {w w' : World} {A : Option Addr} {kb : List Bool} (h : Boo w A kb) (hb : Below w.heap.size w w') : 0 < kb.length → ∃ b o, A = some ⟨b, o, none⟩ ∧ b < w.heap.size ∧ ∀ j u, kb[j]? = some u → w'.cell? ⟨b, o + j, none⟩ = some (.bool u) := fun hn => by
  obtain ⟨b, o, e, hlt, hc⟩ := h hn
  exact ⟨b, o, e, hlt, fun j u hu => (hb.cell (p := ⟨b, _, none⟩) hlt).trans (hc j u hu)⟩

theorem setAll_length : ∀ (l : List Bk) (bs : List UInt8), (∀ x ∈ l, isSz (x.size : Int) = true ∧ x.off + x.size ≤ bs.length) → (setAll bs l).length = bs.length
  | [], _, _ => rfl
  | x :: r, bs, h => by
    have h1 := h x (List.mem_cons_self ..)
    have e := setT_length (bs := bs) h1.1 h1.2
    show (setAll (setT bs x) r).length = _
    rw [setAll_length r _ (fun y hy => by rw [e]; exact h y (List.mem_cons_of_mem _ hy)), e]

end Go.Proofs.Ytcjjpffkmajehaa

/- What the program's lists (layer 9) are to tell: the words in which the laws ask for it. -/
namespace Go.Proofs.Ytcjjpffkmajehaa
open Go.RowKit

/-- Numbers, or an error. -/
def NumsTold (x : Option (List Nat)) (k : Int) (w : World) (e : Ending) (w' : World) : Prop :=
  ∃ A' c', e = .returned (.tuple #[.slice A' (x.getD []).length c', errV x.isSome k]) ∧ w'.ownsRow w.heap.size 3 1 (.slice A' (x.getD []).length c') (x.getD []).length ((x.getD []).map iV) ∧ Below w.heap.size w w'

def PutC : Prop := ∀ (w : World) (g base cap c : Nat) (A : Option Addr) (bs : List UInt8) (o : Int) (y : Option (List UInt8)), Ar w 90 g base cap A c bs → base ≤ 4611686018427387904 → bs.length ≤ 16384 → (-9223372036854775808 ≤ o ∧ o ≤ 9223372036854775807) → putB bs o = y →
  Calls Try.prog 42 #[.pointer (some ⟨g, 0, none⟩), .int .i64 o] w fun e w' => Done 3 90 g base cap A y w e w'
def AllC : Prop := ∀ (w : World) (g base cap c : Nat) (A : Option Addr) (bs : List UInt8) (k : Nat) (x : Option (List Nat)), Ar w 90 g base cap A c bs → base ≤ 4611686018427387904 → bs.length ≤ 16384 → k < 22 → allB bs k = x →
  Calls Try.prog 55 #[.pointer (some ⟨g, 0, none⟩), .int .i64 (k : Int)] w fun e w' => NumsTold x 3 w e w'
end Go.Proofs.Ytcjjpffkmajehaa

/- The program's lists (layer 9): a number at an offset, told and laid; a class's place and bit. -/
namespace Go.Proofs.Ytcjjpffkmajehaa
open Go.RowKit

theorem ru64_eq {a b : Int} (h : a = b) : Ending.returned (.int .u64 a) = .returned (.int .u64 b) := by rw [h]
/-- A call that lays bytes, behind others that did. -/
theorem step_became {t : TypeId} {g base cap : Nat} {A : Option Addr} {b1 b2 : List UInt8} {w w1 : World} {F : Nat} {args : Array Value} {r : Ending} (h : Became t g base cap A b1 w w1)
    (hc : ∀ A' c', Ar w1 t g base cap A' c' b1 → Calls Try.prog F args w1 fun e w2 => e = r ∧ Became t g base cap A' b2 w1 w2) : Calls Try.prog F args w1 fun e w2 => e = r ∧ Became t g base cap A b2 w w2 := by
  obtain ⟨A', c', a, tc, k⟩ := h
  refine (hc A' c' a).mono ?_
  rintro e w2 ⟨h1, h2⟩
  exact ⟨h1, Became.trans a tc k h2⟩

section
variable {w : World} {g base cap c : Nat} {A : Option Addr} {bs : List UInt8}
set_option maxHeartbeats 400000 in
theorem lnumber_any (h : Ar w 90 g base cap A c bs) (hb : base ≤ 4611686018427387904) (hl : bs.length ≤ 16384) (o : Int) (p : Nat) (hp : o = (p : Int)) (ho : p + 8 ≤ bs.length) (v : Nat) (hv : wordN bs p = v) :
    Calls Try.prog 62 #[.pointer (some ⟨g, 0, none⟩), .int .i64 o] w fun e w' => e = .returned (.int .u64 (v : Int)) ∧ w = w' := by
  subst hp
  have HA := Lib.hid (base_any h)
  have hwd := word_at h hb hl (p : Int) (by omega) (some v) (by unfold word?; rw [if_pos (by omega), Int.toNat_natCast, hv])
  dsimp only [wdV] at hwd
  rw [adr_pos base hb p (by omega), show ((base + p : Nat) : Int) = (base : Int) + (p : Int) by omega] at hwd
  have HW := Lib.hid hwd
  have hp2 : p ≤ 16384 := by omega
  clear hwd h hv ho hl
  go_enter Try.func62, Try.ntmps62
  go_wp2_with fail
  with_reducible refine HA.out.mono ?_
  rintro e w1 ⟨rfl, rfl⟩
  go_wp2_with fail
  refine HW.out.mono ?_
  rintro e w1 ⟨rfl, rfl⟩
  go_wp2
  go_ret
  exact ⟨rfl, rfl⟩

set_option maxHeartbeats 400000 in
theorem lset_any (h : Ar w 90 g base cap A c bs) (hb : base ≤ 4611686018427387904) (hl : bs.length ≤ 16384) (o : Int) (p : Nat) (hp : o = (p : Int)) (ho : p + 8 ≤ bs.length) (v : Nat) (hv : v < 18446744073709551616) :
    Calls Try.prog 65 #[.pointer (some ⟨g, 0, none⟩), .int .i64 o, .int .u64 (v : Int)] w fun e w' => e = .returned (.tuple #[]) ∧ Became 90 g base cap A (lyN bs p v) w w' := by
  subst hp
  have HA := Lib.hid (base_any h)
  have hwd := setword_ok h (by omega) (base + p) p v (by omega) hv (by omega) (by omega) ho
  rw [show lay bs p (lowB 8 v) = lyN bs p v from layN_eq bs p v, show ((base + p : Nat) : Int) = (base : Int) + (p : Int) by omega] at hwd
  have HW := Lib.hid hwd
  have hp2 : p ≤ 16384 := by omega
  clear hwd h ho hl
  go_enter Try.func65, Try.ntmps65
  go_wp2_with fail
  with_reducible refine HA.out.mono ?_
  rintro e w1 ⟨rfl, rfl⟩
  go_wp2_with fail
  refine HW.out.mono ?_
  rintro e w1 ⟨rfl, hbe⟩
  have HB := Lib.hid hbe
  clear hbe
  go_wp2
  go_end0
  exact ⟨rfl, HB.out⟩

set_option maxHeartbeats 400000 in
theorem lfirst_any (w : World) (k : Nat) (hk : k < 22) :
    Calls Try.prog 63 #[.int .i64 (k : Int)] w fun e w' => e = .returned (.int .i64 (8 + 8 * (k : Int))) ∧ w = w' := by
  go_enter Try.func63, Try.ntmps63
  go_wp2
  go_ret
  exact ⟨rfl, rfl⟩

set_option maxHeartbeats 400000 in
theorem lbit_any (w : World) (k : Nat) (hk : k < 22) :
    Calls Try.prog 76 #[.int .i64 (k : Int)] w fun e w' => e = .returned (.int .u64 ((2 ^ k : Nat) : Int)) ∧ w = w' := by
  have HP := Lib.hid (pow22 k hk)
  go_enter Try.func76, Try.ntmps76
  go_wp2
  go_ret
  refine ⟨ru64_eq ?_, rfl⟩
  have hq := HP.out
  have e : (2 : Int) ^ k = ((2 ^ k : Nat) : Int) := by rw [Int.natCast_pow]; rfl
  rw [IntKind.wrap_u64, e]
  clear e HP
  generalize 2 ^ k = q at hq
  omega
end
end Go.Proofs.Ytcjjpffkmajehaa

/- The program's lists (layer 9): the class of a free block, members, a class's bit. -/
namespace Go.Proofs.Ytcjjpffkmajehaa
open Go.RowKit

section
variable {w : World} {g base cap c : Nat} {A : Option Addr} {bs : List UInt8}
set_option maxHeartbeats 1000000 in
theorem lfree_no (h : Ar w 90 g base cap A c bs) (hb : base ≤ 4611686018427387904) (hl : bs.length ≤ 16384) (o : Int) (ho : -9223372036854775808 ≤ o ∧ o ≤ 9223372036854775807) (hk : freeI bs o < 0) :
    Calls Try.prog 61 #[.pointer (some ⟨g, 0, none⟩), .int .i64 o] w fun e w' => e = .returned (.tuple #[.int .i64 0, .bool false]) ∧ Below w.heap.size w w' := by
  cases hg : getB bs o with
  | none =>
    have hG := getC w g base cap c A bs o _ h hb hl ho hg
    dsimp only [BlkTold, bkV, Option.isSome, errV] at hG
    have HG := Lib.hid hG
    clear hG h hk hg
    go_enter Try.func61, Try.ntmps61
    go_wp2_with fail
    with_reducible refine HG.out.mono ?_
    rintro e w1 ⟨rfl, hb⟩
    go_wp2
    go_ret2
    exact ⟨rfl, hb.alloc hb.size _⟩
  | some x =>
    obtain ⟨xo, xs, xu⟩ := x
    have hG := getC w g base cap c A bs o _ h hb hl ho hg
    dsimp only [BlkTold, bkV, Bk.val, Option.isSome, errV] at hG
    have q3 := (getB_some hg).2.2.2.2.1
    dsimp only at q3
    have q := (isSz_iff _).1 q3
    cases xu with
    | true =>
      have HG := Lib.hid hG
      clear hG h hk hg q3
      go_enter Try.func61, Try.ntmps61
      go_wp2_with fail
      with_reducible refine HG.out.mono ?_
      rintro e w1 ⟨rfl, hb⟩
      go_wp2
      go_ret2
      exact ⟨rfl, hb.alloc hb.size _⟩
    | false =>
      obtain ⟨d, hd, _⟩ := class_nat (x := ⟨xo, xs, false⟩) q3
      dsimp only at hd
      unfold freeI at hk
      rw [hg] at hk
      dsimp only at hk
      rw [hd] at hk
      simp at hk
      omega

set_option maxRecDepth 100000 in
set_option maxHeartbeats 1000000 in
theorem lfree_yes (h : Ar w 90 g base cap A c bs) (hb : base ≤ 4611686018427387904) (hl : bs.length ≤ 16384) (o : Int) (ho : -9223372036854775808 ≤ o ∧ o ≤ 9223372036854775807) (k : Nat) (hk : freeI bs o = (k : Int)) :
    Calls Try.prog 61 #[.pointer (some ⟨g, 0, none⟩), .int .i64 o] w fun e w' => e = .returned (.tuple #[.int .i64 (k : Int), .bool true]) ∧ Below w.heap.size w w' := by
  cases hg : getB bs o with
  | none => unfold freeI at hk; rw [hg] at hk; dsimp only at hk; omega
  | some x =>
    obtain ⟨xo, xs, xu⟩ := x
    have hG := getC w g base cap c A bs o _ h hb hl ho hg
    dsimp only [BlkTold, bkV, Bk.val, Option.isSome, errV] at hG
    have q := (isSz_iff _).1 (getB_some hg).2.2.2.2.1
    dsimp only at q
    cases xu with
    | true => unfold freeI at hk; rw [hg] at hk; simp at hk
    | false =>
      have hk' : classI (xs : Int) = (k : Int) := by rw [← hk]; unfold freeI; rw [hg]; rfl
      have HC := Lib.hid (fun w => classC w (xs : Int) (by omega))
      rw [hk'] at HC
      have HG := Lib.hid hG
      clear hG h hk hg hk'
      go_enter Try.func61, Try.ntmps61
      go_wp2_with fail
      with_reducible refine HG.out.mono ?_
      rintro e w1 ⟨rfl, hb⟩
      go_wp2_with fail
      with_reducible refine (HC.out _).mono ?_
      rintro e w2 ⟨rfl, hb2⟩
      have hb3 := hb.alloc hb.size (.cells #[.int .i64 (xo : Int), .int .i64 (xs : Int), .bool false] 44)
      have HB := Lib.hid (hb3.trans (hb2.mono hb3.size))
      clear hb hb2 hb3
      go_wp2
      go_ret2
      exact ⟨rfl, HB.out⟩

set_option maxHeartbeats 1000000 in
theorem lmember_any (h : Ar w 90 g base cap A c bs) (hb : base ≤ 4611686018427387904) (hl : bs.length ≤ 16384) (k p : Nat) (hk : k < 22) (hp : p < 18446744073709551616) (b : Bool) (hm : memberB bs p (k : Int) = b) :
    Calls Try.prog 64 #[.pointer (some ⟨g, 0, none⟩), .int .i64 (k : Int), .int .u64 (p : Int)] w fun e w' => e = .returned (.bool b) ∧ Below w.heap.size w w' := by
  have HL := Lib.hid (len_any h)
  by_cases h0 : bs.length ≤ p
  · obtain rfl : false = b := by
      rw [← hm]
      cases hq : memberB bs p (k : Int) with
      | true => have := memberB_in hq; omega
      | false => rfl
    clear hm h
    go_enter Try.func64, Try.ntmps64
    go_wp2_with fail
    with_reducible refine HL.out.mono ?_
    rintro e w1 ⟨rfl, rfl⟩
    go_wp2
    go_ret
    exact ⟨rfl, Below.refl _ _⟩
  · have h1 : p < bs.length := by omega
    rw [memberB_free, decide_eq_true (by omega), Bool.true_and] at hm
    rcases freeI_cases bs (p : Int) with hf | ⟨j, hf⟩
    · obtain rfl : false = b := by rw [← hm]; exact (beq_eq_false_iff_ne.2 (by omega)).symm
      have HF := Lib.hid (lfree_no h hb hl (p : Int) (by omega) hf)
      clear hm h hf
      go_enter Try.func64, Try.ntmps64
      go_wp2_with fail
      with_reducible refine HL.out.mono ?_
      rintro e w1 ⟨rfl, rfl⟩
      go_wp2_with fail
      with_reducible refine HF.out.mono ?_
      rintro e w1 ⟨rfl, hb1⟩
      have HB := Lib.hid hb1
      clear hb1
      go_wp2
      go_ret
      exact ⟨rfl, HB.out⟩
    · have HF := Lib.hid (lfree_yes h hb hl (p : Int) (by omega) j hf)
      rw [hf] at hm
      have HM := Lib.hid hm
      have hj := (freeI_in hf).2.2
      clear hm h hf
      go_enter Try.func64, Try.ntmps64
      go_wp2_with fail
      with_reducible refine HL.out.mono ?_
      rintro e w1 ⟨rfl, rfl⟩
      go_wp2_with fail
      with_reducible refine HF.out.mono ?_
      rintro e w1 ⟨rfl, hb1⟩
      have HB := Lib.hid hb1
      clear hb1
      go_wp2
      go_ret
      exact ⟨rt_b HM.out, HB.out⟩

set_option maxHeartbeats 1000000 in
theorem lhas_any (h : Ar w 90 g base cap A c bs) (hb : base ≤ 4611686018427387904) (hl : bs.length ≤ 16384) (k p q u : Nat) (hk : k < 22) (hp : p < 18446744073709551616) (hq : q ≤ 16) (b : Bool) (hm : memHas bs k p q u = b) :
    Calls Try.prog 72 #[.pointer (some ⟨g, 0, none⟩), .int .i64 (k : Int), .int .u64 (p : Int), .int .i64 (q : Int), .int .u64 (u : Int)] w fun e w' => e = .returned (.bool b) ∧ Below w.heap.size w w' := by
  unfold memHas at hm
  cases hmb : memberB bs p (k : Int) with
  | false =>
    rw [hmb] at hm
    obtain rfl : false = b := hm
    have HM := Lib.hid (lmember_any h hb hl k p hk hp false hmb)
    clear hmb h
    go_enter Try.func72, Try.ntmps72
    go_wp2_with fail
    with_reducible refine HM.out.mono ?_
    rintro e w1 ⟨rfl, hb1⟩
    have HB := Lib.hid hb1
    clear hb1
    go_wp2
    go_ret
    exact ⟨rfl, HB.out⟩
  | true =>
    have hin := memberB_in hmb
    obtain ⟨v, hv⟩ : ∃ v, wordN bs (p + q) = v := ⟨_, rfl⟩
    have hvl : v < 18446744073709551616 := by rw [← hv]; exact wordN_lt _ _
    rw [hmb, hv, Bool.true_and] at hm
    have hm2 : ((v : Int) == (u : Int)) = b := by rw [← hm, Bool.eq_iff_iff, beq_iff_eq, beq_iff_eq]; omega
    have HM := Lib.hid (lmember_any h hb hl k p hk hp true hmb)
    have HN := Lib.hid (fun w1 (hb1 : Below w.heap.size w w1) => lnumber_any (h.below hb1) hb hl ((p : Int) + (q : Int)) (p + q) (by omega) (by omega) v hv)
    have HV := Lib.hid hm2
    clear hmb h hm hm2 hv
    go_enter Try.func72, Try.ntmps72
    go_wp2_with fail
    with_reducible refine HM.out.mono ?_
    rintro e w1 ⟨rfl, hb1⟩
    have HB := Lib.hid hb1
    clear hb1
    go_wp2_with fail
    refine (HN.out _ HB.out).mono ?_
    rintro e w2 ⟨rfl, rfl⟩
    go_wp2
    go_ret
    exact ⟨rt_b HV.out, HB.out⟩

set_option maxHeartbeats 1000000 in
theorem lhasbit_any (h : Ar w 90 g base cap A c bs) (hb : base ≤ 4611686018427387904) (hl : bs.length ≤ 16384) (hl2 : 184 ≤ bs.length) (k : Nat) (hk : k < 22) (b : Bool) (hm : bitN (wordN bs 0) k = b) :
    Calls Try.prog 71 #[.pointer (some ⟨g, 0, none⟩), .int .i64 (k : Int)] w fun e w' => e = .returned (.bool b) ∧ w = w' := by
  obtain ⟨v, hv⟩ : ∃ v, wordN bs 0 = v := ⟨_, rfl⟩
  have hvl : v < 18446744073709551616 := by rw [← hv]; exact wordN_lt _ _
  have HN := Lib.hid (lnumber_any h hb hl 0 0 rfl (by omega) v hv)
  rw [hv] at hm
  have HV := Lib.hid ((and_bit v k hvl hk).trans hm)
  have HT := Lib.hid (lbit_any w k hk)
  obtain ⟨m, hm2⟩ : ∃ m, 2 ^ k = m := ⟨_, rfl⟩
  have hml : m ≤ 2097152 := by rw [← hm2]; exact pow22 k hk
  rw [hm2] at HV HT
  clear hm hv h hm2
  go_enter Try.func71, Try.ntmps71
  go_wp2_with fail
  with_reducible refine HN.out.mono ?_
  rintro e w1 ⟨rfl, rfl⟩
  go_wp2_with fail
  with_reducible refine HT.out.mono ?_
  rintro e w1 ⟨rfl, rfl⟩
  go_wp2
  go_ret
  exact ⟨rt_b HV.out, rfl⟩
end
end Go.Proofs.Ytcjjpffkmajehaa

/- The contract of the program's Put. -/
namespace Go.Proofs.Ytcjjpffkmajehaa
open Go.RowKit

section
variable {w w1 : World} {g base cap c : Nat} {A : Option Addr} {bs b1 : List UInt8}
theorem became_of (h : Ar w 90 g base cap A c bs) (hb : Below w.heap.size w w1) : Became 90 g base cap A bs w w1 := ⟨A, c, h.below hb, Tch.of_below hb, .inl rfl⟩
theorem became_set (h : Became 90 g base cap A b1 w w1) (hb : base ≤ 4611686018427387904) (hl : b1.length ≤ 16384) (o : Int) (p : Nat) (hp : o = (p : Int)) (ho : p + 8 ≤ b1.length) (v : Nat) (hv : v < 18446744073709551616) :
    Calls Try.prog 65 #[.pointer (some ⟨g, 0, none⟩), .int .i64 o, .int .u64 (v : Int)] w1 fun e w2 => e = .returned (.tuple #[]) ∧ Became 90 g base cap A (lyN b1 p v) w w2 :=
  step_became h fun _ _ a => lset_any a hb hl o p hp ho v hv
theorem became_num (h : Became 90 g base cap A b1 w w1) (hb : base ≤ 4611686018427387904) (hl : b1.length ≤ 16384) (o : Int) (p : Nat) (hp : o = (p : Int)) (ho : p + 8 ≤ b1.length) (v : Nat) (hv : wordN b1 p = v) :
    Calls Try.prog 62 #[.pointer (some ⟨g, 0, none⟩), .int .i64 o] w1 fun e w2 => e = .returned (.int .u64 (v : Int)) ∧ w1 = w2 := by
  obtain ⟨_, _, a, _, _⟩ := h
  exact lnumber_any a hb hl o p hp ho v hv

set_option maxRecDepth 100000 in
set_option maxHeartbeats 1000000 in
theorem lsetfirst_no (h : Ar w 90 g base cap A c bs) (hb : base ≤ 4611686018427387904) (n : Nat) (hn : bs.length = n) (hl : n ≤ 16384) (hl2 : 184 ≤ n) (k : Nat) (hk : k < 22) :
    Calls Try.prog 66 #[.pointer (some ⟨g, 0, none⟩), .int .i64 (k : Int), .int .u64 0] w fun e w' => e = .returned (.tuple #[]) ∧ Became 90 g base cap A (markB (lyN bs (8 + 8 * k) 0) k) w w' := by
  obtain ⟨b1, hb1⟩ : ∃ b1, lyN bs (8 + 8 * k) 0 = b1 := ⟨_, rfl⟩
  have hbl : b1.length = n := by rw [← hb1, lyN_length _ _ _ (by omega)]; exact hn
  have hw1 : wordN b1 (8 + 8 * k) = 0 := by rw [← hb1]; exact wordN_same _ _ _ (by omega) (by omega)
  obtain ⟨v0, hv0⟩ : ∃ v0, wordN b1 0 = v0 := ⟨_, rfl⟩
  have hvl : v0 < 18446744073709551616 := by rw [← hv0]; exact wordN_lt _ _
  obtain ⟨m, hm⟩ : ∃ m, 2 ^ k = m := ⟨_, rfl⟩
  have hml : m ≤ 2097152 := by rw [← hm]; exact pow22 k hk
  obtain ⟨x, hx⟩ : ∃ x, bitTo v0 k false = x := ⟨_, rfl⟩
  have hxl : x < 18446744073709551616 := by rw [← hx]; exact bitTo_lt v0 k hk hvl false
  have hand : bits .andNot .u64 (v0 : Int) (m : Int) = (x : Int) := by rw [← hm, ← hx]; exact andnot_bit v0 k hvl hk
  have hmk : markB b1 k = lyN b1 0 x := by rw [markB_eq b1 k (by omega), hw1, hv0]; simpa using congrArg (lyN b1 0) hx
  have HS1 := lset_any h hb (by omega) (8 + 8 * (k : Int)) (8 + 8 * k) (by omega) (by omega) 0 (by omega)
  rw [hb1] at HS1 ⊢
  rw [hmk]
  have HS1 := Lib.hid HS1
  have HF := Lib.hid (lfirst_any w k hk)
  have HT := fun W => lbit_any W k hk
  rw [hm] at HT
  have HT := Lib.hid HT
  have HN := Lib.hid (fun W (hB : Became 90 g base cap A b1 w W) => became_num hB hb (by omega) 0 0 rfl (by omega) v0 hv0)
  have HS2 := Lib.hid (fun W (hB : Became 90 g base cap A b1 w W) => became_set hB hb (by omega) 0 0 rfl (by omega) x hxl)
  clear h hb1 hw1 hv0 hm hx hmk hn hbl
  go_enter Try.func66, Try.ntmps66
  go_wp2_with fail
  with_reducible refine HF.out.mono ?_
  rintro e w2 ⟨rfl, rfl⟩
  go_wp2_with fail
  refine HS1.out.mono ?_
  rintro e w2 ⟨rfl, be1⟩
  have B1 := Lib.hid be1
  clear be1
  go_wp2_with fail
  refine (HN.out _ B1.out).mono ?_
  rintro e w3 ⟨rfl, rfl⟩
  go_wp2_with fail
  with_reducible refine (HT.out _).mono ?_
  rintro e w3 ⟨rfl, rfl⟩
  go_wp2_with fail
  refine (HS2.out _ B1.out).mono ?_
  rintro e w3 ⟨rfl, be2⟩
  have B2 := Lib.hid be2
  clear be2
  go_wp2
  go_end0
  exact ⟨rfl, B2.out⟩

set_option maxRecDepth 100000 in
set_option maxHeartbeats 1000000 in
theorem lsetfirst_yes (h : Ar w 90 g base cap A c bs) (hb : base ≤ 4611686018427387904) (n : Nat) (hn : bs.length = n) (hl : n ≤ 16384) (hl2 : 184 ≤ n) (k : Nat) (hk : k < 22) (v : Nat) (hv : v < 18446744073709551616) (hv0 : v ≠ 0) :
    Calls Try.prog 66 #[.pointer (some ⟨g, 0, none⟩), .int .i64 (k : Int), .int .u64 (v : Int)] w fun e w' => e = .returned (.tuple #[]) ∧ Became 90 g base cap A (markB (lyN bs (8 + 8 * k) v) k) w w' := by
  obtain ⟨b1, hb1⟩ : ∃ b1, lyN bs (8 + 8 * k) v = b1 := ⟨_, rfl⟩
  have hbl : b1.length = n := by rw [← hb1, lyN_length _ _ _ (by omega)]; exact hn
  have hw1 : wordN b1 (8 + 8 * k) = v := by rw [← hb1]; exact wordN_same _ _ _ (by omega) (by omega)
  obtain ⟨v1, hv1⟩ : ∃ v1, wordN b1 0 = v1 := ⟨_, rfl⟩
  have hvl : v1 < 18446744073709551616 := by rw [← hv1]; exact wordN_lt _ _
  obtain ⟨m, hm⟩ : ∃ m, 2 ^ k = m := ⟨_, rfl⟩
  have hml : m ≤ 2097152 := by rw [← hm]; exact pow22 k hk
  obtain ⟨x, hx⟩ : ∃ x, bitTo v1 k false = x := ⟨_, rfl⟩
  obtain ⟨y, hy⟩ : ∃ y, bitTo v1 k true = y := ⟨_, rfl⟩
  have hxl : x < 18446744073709551616 := by rw [← hx]; exact bitTo_lt v1 k hk hvl false
  have hyl : y < 18446744073709551616 := by rw [← hy]; exact bitTo_lt v1 k hk hvl true
  have hand : bits .andNot .u64 (v1 : Int) (m : Int) = (x : Int) := by rw [← hm, ← hx]; exact andnot_bit v1 k hvl hk
  have hor : bits .or .u64 (x : Int) (m : Int) = (y : Int) := by
    rw [← hy, bitTo_on, hx, ← hm]
    exact or_bit x k hxl hk (by rw [← hx]; exact bitTo_off v1 k)
  have hmk : markB b1 k = lyN b1 0 y := by rw [markB_eq b1 k (by omega), hw1, hv1, decide_eq_true hv0, hy]
  have hne : ((v : Int) != 0) = true := by rw [bne_iff_ne]; omega
  have HS1 := lset_any h hb (by omega) (8 + 8 * (k : Int)) (8 + 8 * k) (by omega) (by omega) v hv
  rw [hb1] at HS1 ⊢
  rw [hmk]
  have HS1 := Lib.hid HS1
  have HF := Lib.hid (lfirst_any w k hk)
  have HT := fun W => lbit_any W k hk
  rw [hm] at HT
  have HT := Lib.hid HT
  have HN := Lib.hid (fun W (hB : Became 90 g base cap A b1 w W) => became_num hB hb (by omega) 0 0 rfl (by omega) v1 hv1)
  have HS2 := Lib.hid (fun W (hB : Became 90 g base cap A b1 w W) => became_set hB hb (by omega) 0 0 rfl (by omega) y hyl)
  clear h hb1 hw1 hv1 hm hx hy hmk hn hbl
  go_enter Try.func66, Try.ntmps66
  go_wp2_with fail
  with_reducible refine HF.out.mono ?_
  rintro e w2 ⟨rfl, rfl⟩
  go_wp2_with fail
  refine HS1.out.mono ?_
  rintro e w2 ⟨rfl, be1⟩
  have B1 := Lib.hid be1
  clear be1
  go_wp2_with fail
  refine (HN.out _ B1.out).mono ?_
  rintro e w3 ⟨rfl, rfl⟩
  go_wp2_with fail
  with_reducible refine (HT.out _).mono ?_
  rintro e w3 ⟨rfl, rfl⟩
  go_wp2_with fail
  with_reducible refine (HT.out _).mono ?_
  rintro e w3 ⟨rfl, rfl⟩
  go_wp2_with fail
  refine (HS2.out _ B1.out).mono ?_
  rintro e w3 ⟨rfl, be2⟩
  have B2 := Lib.hid be2
  clear be2
  go_wp2
  go_end0
  exact ⟨rfl, B2.out⟩

theorem became_first (h : Became 90 g base cap A b1 w w1) (hb : base ≤ 4611686018427387904) (n : Nat) (hn : b1.length = n) (hl : n ≤ 16384) (hl2 : 184 ≤ n) (k : Nat) (hk : k < 22) (v : Nat) (hv : v < 18446744073709551616) :
    Calls Try.prog 66 #[.pointer (some ⟨g, 0, none⟩), .int .i64 (k : Int), .int .u64 (v : Int)] w1 fun e w2 => e = .returned (.tuple #[]) ∧ Became 90 g base cap A (markB (lyN b1 (8 + 8 * k) v) k) w w2 := by
  refine step_became h fun _ _ a => ?_
  by_cases h0 : v = 0
  · subst h0
    exact lsetfirst_no a hb n hn hl hl2 k hk
  · exact lsetfirst_yes a hb n hn hl hl2 k hk v hv h0
end
end Go.Proofs.Ytcjjpffkmajehaa

/- The contract of the program's Put (genlst.py). -/
namespace Go.Proofs.Ytcjjpffkmajehaa
open Go.RowKit

section
variable {w : World} {g base cap c : Nat} {A : Option Addr} {bs : List UInt8}
set_option maxRecDepth 100000 in
set_option maxHeartbeats 2000000 in
theorem lput_no (h : Ar w 90 g base cap A c bs) (hb : base ≤ 4611686018427387904) (n : Nat) (hn : bs.length = n) (hl : n ≤ 16384) (o : Int) (ho : -9223372036854775808 ≤ o ∧ o ≤ 9223372036854775807) (hk : freeI bs o < 0) :
    Calls Try.prog 42 #[.pointer (some ⟨g, 0, none⟩), .int .i64 o] w fun e w' => e = .returned (errV false 3) ∧ Below w.heap.size w w' := by
  have HF := Lib.hid (lfree_no h hb (by omega) o ho hk)
  clear h hk hn
  go_enter Try.func42, Try.ntmps42
  go_wp2_with fail
  with_reducible refine HF.out.mono ?_
  rintro e w1 ⟨rfl, hb1⟩
  have HB := Lib.hid hb1
  clear hb1
  go_wp2
  go_ret
  exact ⟨rfl, HB.out⟩

set_option maxRecDepth 100000 in
set_option maxHeartbeats 2000000 in
theorem lput_same (h : Ar w 90 g base cap A c bs) (hb : base ≤ 4611686018427387904) (n : Nat) (hn : bs.length = n) (hl : n ≤ 16384) (p k f : Nat) (hk : freeI bs (p : Int) = (k : Int)) (hf : wordN bs (8 + 8 * k) = f) (hfp : f = p) :
    Calls Try.prog 42 #[.pointer (some ⟨g, 0, none⟩), .int .i64 (p : Int)] w fun e w' => e = .returned (errV false 3) ∧ Below w.heap.size w w' := by
  obtain ⟨p184, p32, k22⟩ := freeI_in hk
  have hfl : f < 18446744073709551616 := by rw [← hf]; exact wordN_lt _ _
  have HF := Lib.hid (lfree_yes h hb (by omega) (p : Int) (by omega) k hk)
  have HFA := Lib.hid (fun W => lfirst_any W k k22)
  have HNF := Lib.hid (fun W (hB : Below w.heap.size w W) => lnumber_any (h.below hB) hb (by omega) (8 + 8 * (k : Int)) (8 + 8 * k) (by omega) (by omega) f hf)
  have hp2 : p + 32 ≤ n := by omega
  have hp3 : 184 ≤ p := by omega
  have s1 : ((f : Int) == (p : Int)) = true := by rw [beq_iff_eq]; omega
  clear h hk hf hn hfp
  go_enter Try.func42, Try.ntmps42
  go_wp2_with fail
  with_reducible refine HF.out.mono ?_
  rintro e w1 ⟨rfl, hb1⟩
  have HB := Lib.hid hb1
  clear hb1 HF
  go_wp2_with fail
  refine (HFA.out _).mono ?_
  rintro e w9 ⟨rfl, rfl⟩
  go_wp2_with fail
  refine (HNF.out _ HB.out).mono ?_
  rintro e w9 ⟨rfl, rfl⟩
  clear HFA HNF
  go_wp2
  go_ret
  exact ⟨rfl, HB.out⟩

set_option maxRecDepth 100000 in
set_option maxHeartbeats 2000000 in
theorem lput_other (h : Ar w 90 g base cap A c bs) (hb : base ≤ 4611686018427387904) (n : Nat) (hn : bs.length = n) (hl : n ≤ 16384) (p k f : Nat) (hk : freeI bs (p : Int) = (k : Int)) (hf : wordN bs (8 + 8 * k) = f) (hfp : f ≠ p) (hf0 : f ≠ 0) (hm : memberB bs f (k : Int) = false) :
    Calls Try.prog 42 #[.pointer (some ⟨g, 0, none⟩), .int .i64 (p : Int)] w fun e w' => e = .returned (errV false 3) ∧ Below w.heap.size w w' := by
  obtain ⟨p184, p32, k22⟩ := freeI_in hk
  have hfl : f < 18446744073709551616 := by rw [← hf]; exact wordN_lt _ _
  have HF := Lib.hid (lfree_yes h hb (by omega) (p : Int) (by omega) k hk)
  have HFA := Lib.hid (fun W => lfirst_any W k k22)
  have HNF := Lib.hid (fun W (hB : Below w.heap.size w W) => lnumber_any (h.below hB) hb (by omega) (8 + 8 * (k : Int)) (8 + 8 * k) (by omega) (by omega) f hf)
  have hp2 : p + 32 ≤ n := by omega
  have hp3 : 184 ≤ p := by omega
  have HM := Lib.hid (fun W (hB : Below w.heap.size w W) => lmember_any (h.below hB) hb (by omega) k f k22 hfl _ hm)
  have s1 : ((f : Int) == (p : Int)) = false := by rw [beq_eq_false_iff_ne]; omega
  have s2 : ((f : Int) != 0) = true := by rw [bne_iff_ne]; omega
  clear h hk hf hn hm
  go_enter Try.func42, Try.ntmps42
  go_wp2_with fail
  with_reducible refine HF.out.mono ?_
  rintro e w1 ⟨rfl, hb1⟩
  have HB := Lib.hid hb1
  clear hb1 HF
  go_wp2_with fail
  refine (HFA.out _).mono ?_
  rintro e w9 ⟨rfl, rfl⟩
  go_wp2_with fail
  refine (HNF.out _ HB.out).mono ?_
  rintro e w9 ⟨rfl, rfl⟩
  clear HFA HNF
  go_wp2_with fail
  refine (HM.out _ HB.out).mono ?_
  rintro e w2 ⟨rfl, hb2⟩
  have HB2 := Lib.hid (HB.out.trans (hb2.mono HB.out.size))
  clear hb2 HM HB
  go_wp2
  go_ret
  exact ⟨rfl, HB2.out⟩

set_option maxRecDepth 100000 in
set_option maxHeartbeats 2000000 in
theorem lput_empty (h : Ar w 90 g base cap A c bs) (hb : base ≤ 4611686018427387904) (n : Nat) (hn : bs.length = n) (hl : n ≤ 16384) (p k f : Nat) (hk : freeI bs (p : Int) = (k : Int)) (hf : wordN bs (8 + 8 * k) = f) (hf0 : f = 0) :
    Calls Try.prog 42 #[.pointer (some ⟨g, 0, none⟩), .int .i64 (p : Int)] w fun e w' => e = .returned (errV true 3) ∧ Became 90 g base cap A (markB (lyN (lyN (lyN bs (p + 8) f) (p + 16) 0) (8 + 8 * k) p) k) w w' := by
  obtain ⟨p184, p32, k22⟩ := freeI_in hk
  have hfl : f < 18446744073709551616 := by rw [← hf]; exact wordN_lt _ _
  have HF := Lib.hid (lfree_yes h hb (by omega) (p : Int) (by omega) k hk)
  have HFA := Lib.hid (fun W => lfirst_any W k k22)
  have HNF := Lib.hid (fun W (hB : Below w.heap.size w W) => lnumber_any (h.below hB) hb (by omega) (8 + 8 * (k : Int)) (8 + 8 * k) (by omega) (by omega) f hf)
  have hp2 : p + 32 ≤ n := by omega
  have hp3 : 184 ≤ p := by omega
  have s1 : ((f : Int) == (p : Int)) = false := by rw [beq_eq_false_iff_ne]; omega
  have s2 : ((f : Int) != 0) = false := by subst hf0; rfl
  have HBO := Lib.hid (fun W (hB : Below w.heap.size w W) => became_of h hB)
  obtain ⟨b1, hb1⟩ : ∃ b, lyN bs (p + 8) f = b := ⟨_, rfl⟩
  have nb1 : b1.length = n := by rw [← hb1, lyN_length _ _ _ (by omega)]; exact hn
  have HS1 := fun W (hB : Became 90 g base cap A bs w W) => became_set hB hb (by omega) ((p : Int) + 8) (p + 8) (by omega) (by omega) f hfl
  rw [hb1] at HS1 ⊢
  have HS1 := Lib.hid HS1
  obtain ⟨b2, hb2⟩ : ∃ b, lyN b1 (p + 16) 0 = b := ⟨_, rfl⟩
  have nb2 : b2.length = n := by rw [← hb2, lyN_length _ _ _ (by omega)]; exact nb1
  have HS2 := fun W (hB : Became 90 g base cap A b1 w W) => became_set hB hb (by omega) ((p : Int) + 16) (p + 16) (by omega) (by omega) 0 (by omega)
  rw [hb2] at HS2 ⊢
  have HS2 := Lib.hid HS2
  have HSF := Lib.hid (fun W (hB : Became 90 g base cap A b2 w W) => became_first hB hb n nb2 hl (by omega) k k22 p (by omega))
  clear hb1 nb1 hb2 nb2
  clear h hk hf hn hf0
  go_enter Try.func42, Try.ntmps42
  go_wp2_with fail
  with_reducible refine HF.out.mono ?_
  rintro e w1 ⟨rfl, hb1⟩
  have HB := Lib.hid hb1
  clear hb1 HF
  go_wp2_with fail
  refine (HFA.out _).mono ?_
  rintro e w9 ⟨rfl, rfl⟩
  go_wp2_with fail
  refine (HNF.out _ HB.out).mono ?_
  rintro e w9 ⟨rfl, rfl⟩
  clear HFA HNF
  have G0 := Lib.hid (HBO.out _ HB.out)
  clear HBO HB
  go_wp2_with fail
  refine (HS1.out _ G0.out).mono ?_
  rintro e x1 ⟨rfl, bb⟩
  have G1 := Lib.hid bb
  clear bb HS1 G0
  go_wp2_with fail
  refine (HS2.out _ G1.out).mono ?_
  rintro e x2 ⟨rfl, bb⟩
  have G2 := Lib.hid bb
  clear bb HS2 G1
  go_wp2_with fail
  refine (HSF.out _ G2.out).mono ?_
  rintro e x9 ⟨rfl, bb⟩
  have G9 := Lib.hid bb
  clear bb HSF G2
  go_wp2
  go_ret
  exact ⟨rfl, G9.out⟩

set_option maxRecDepth 100000 in
set_option maxHeartbeats 2000000 in
theorem lput_member (h : Ar w 90 g base cap A c bs) (hb : base ≤ 4611686018427387904) (n : Nat) (hn : bs.length = n) (hl : n ≤ 16384) (p k f : Nat) (hk : freeI bs (p : Int) = (k : Int)) (hf : wordN bs (8 + 8 * k) = f) (hfp : f ≠ p) (hf0 : f ≠ 0) (hm : memberB bs f (k : Int) = true) :
    Calls Try.prog 42 #[.pointer (some ⟨g, 0, none⟩), .int .i64 (p : Int)] w fun e w' => e = .returned (errV true 3) ∧ Became 90 g base cap A (markB (lyN (lyN (lyN (lyN bs (p + 8) f) (p + 16) 0) (f + 16) p) (8 + 8 * k) p) k) w w' := by
  obtain ⟨p184, p32, k22⟩ := freeI_in hk
  have hfl : f < 18446744073709551616 := by rw [← hf]; exact wordN_lt _ _
  have HF := Lib.hid (lfree_yes h hb (by omega) (p : Int) (by omega) k hk)
  have HFA := Lib.hid (fun W => lfirst_any W k k22)
  have HNF := Lib.hid (fun W (hB : Below w.heap.size w W) => lnumber_any (h.below hB) hb (by omega) (8 + 8 * (k : Int)) (8 + 8 * k) (by omega) (by omega) f hf)
  have hp2 : p + 32 ≤ n := by omega
  have hp3 : 184 ≤ p := by omega
  have HM := Lib.hid (fun W (hB : Below w.heap.size w W) => lmember_any (h.below hB) hb (by omega) k f k22 hfl _ hm)
  have s1 : ((f : Int) == (p : Int)) = false := by rw [beq_eq_false_iff_ne]; omega
  have s2 : ((f : Int) != 0) = true := by rw [bne_iff_ne]; omega
  have hfin := memberB_in hm
  have hf16 : f + 16 + 8 ≤ n := by omega
  have hf1 : f ≤ 16384 := by omega
  have HBO := Lib.hid (fun W (hB : Below w.heap.size w W) => became_of h hB)
  obtain ⟨b1, hb1⟩ : ∃ b, lyN bs (p + 8) f = b := ⟨_, rfl⟩
  have nb1 : b1.length = n := by rw [← hb1, lyN_length _ _ _ (by omega)]; exact hn
  have HS1 := fun W (hB : Became 90 g base cap A bs w W) => became_set hB hb (by omega) ((p : Int) + 8) (p + 8) (by omega) (by omega) f hfl
  rw [hb1] at HS1 ⊢
  have HS1 := Lib.hid HS1
  obtain ⟨b2, hb2⟩ : ∃ b, lyN b1 (p + 16) 0 = b := ⟨_, rfl⟩
  have nb2 : b2.length = n := by rw [← hb2, lyN_length _ _ _ (by omega)]; exact nb1
  have HS2 := fun W (hB : Became 90 g base cap A b1 w W) => became_set hB hb (by omega) ((p : Int) + 16) (p + 16) (by omega) (by omega) 0 (by omega)
  rw [hb2] at HS2 ⊢
  have HS2 := Lib.hid HS2
  obtain ⟨b3, hb3⟩ : ∃ b, lyN b2 (f + 16) p = b := ⟨_, rfl⟩
  have nb3 : b3.length = n := by rw [← hb3, lyN_length _ _ _ (by omega)]; exact nb2
  have HS3 := fun W (hB : Became 90 g base cap A b2 w W) => became_set hB hb (by omega) ((f : Int) + 16) (f + 16) (by omega) (by omega) p (by omega)
  rw [hb3] at HS3 ⊢
  have HS3 := Lib.hid HS3
  have HSF := Lib.hid (fun W (hB : Became 90 g base cap A b3 w W) => became_first hB hb n nb3 hl (by omega) k k22 p (by omega))
  clear hb1 nb1 hb2 nb2 hb3 nb3
  clear h hk hf hn hm
  go_enter Try.func42, Try.ntmps42
  go_wp2_with fail
  with_reducible refine HF.out.mono ?_
  rintro e w1 ⟨rfl, hb1⟩
  have HB := Lib.hid hb1
  clear hb1 HF
  go_wp2_with fail
  refine (HFA.out _).mono ?_
  rintro e w9 ⟨rfl, rfl⟩
  go_wp2_with fail
  refine (HNF.out _ HB.out).mono ?_
  rintro e w9 ⟨rfl, rfl⟩
  clear HFA HNF
  go_wp2_with fail
  refine (HM.out _ HB.out).mono ?_
  rintro e w2 ⟨rfl, hb2⟩
  have HB2 := Lib.hid (HB.out.trans (hb2.mono HB.out.size))
  clear hb2 HM HB
  have G0 := Lib.hid (HBO.out _ HB2.out)
  clear HBO HB2
  go_wp2_with fail
  refine (HS1.out _ G0.out).mono ?_
  rintro e x1 ⟨rfl, bb⟩
  have G1 := Lib.hid bb
  clear bb HS1 G0
  go_wp2_with fail
  refine (HS2.out _ G1.out).mono ?_
  rintro e x2 ⟨rfl, bb⟩
  have G2 := Lib.hid bb
  clear bb HS2 G1
  go_wp2_with fail
  refine (HS3.out _ G2.out).mono ?_
  rintro e x3 ⟨rfl, bb⟩
  have G3 := Lib.hid bb
  clear bb HS3 G2
  go_wp2_with fail
  refine (HSF.out _ G3.out).mono ?_
  rintro e x9 ⟨rfl, bb⟩
  have G9 := Lib.hid bb
  clear bb HSF G3
  go_wp2
  go_ret
  exact ⟨rfl, G9.out⟩

end
theorem putC : PutC := by
  intro w g base cap c A bs o y h hb hl ho hy
  subst hy
  rcases freeI_cases bs o with hk | ⟨k, hk⟩
  · have e : putB bs o = none := by unfold putB; rw [if_pos hk]
    rw [e]
    exact lput_no h hb _ rfl hl o ho hk
  · obtain ⟨p184, p32, k22⟩ := freeI_in hk
    obtain ⟨p, rfl⟩ : ∃ p : Nat, o = (p : Int) := ⟨o.toNat, by omega⟩
    obtain ⟨f, hf⟩ : ∃ f, wordN bs (8 + 8 * k) = f := ⟨_, rfl⟩
    have e : putB bs (p : Int) = if (f : Int) = (p : Int) ∨ (f ≠ 0 ∧ memberB bs f (k : Int) = false) then none else some (markB (lyN (if f ≠ 0 then lyN (lyN (lyN bs (p + 8) f) (p + 16) 0) (f + 16) p else lyN (lyN bs (p + 8) f) (p + 16) 0) (8 + 8 * k) p) k) := by
      unfold putB
      rw [hk, if_neg (by omega)]
      simp only [Int.toNat_natCast, hf]
    rw [e]
    by_cases hfp : f = p
    · rw [if_pos (.inl (by omega))]
      exact lput_same h hb _ rfl hl p k f hk hf hfp
    · by_cases hf0 : f = 0
      · rw [if_neg (by omega), if_neg (by omega)]
        exact lput_empty h hb _ rfl hl p k f hk hf hf0
      · cases hm : memberB bs f (k : Int) with
        | false =>
          rw [if_pos (.inr ⟨hf0, rfl⟩)]
          exact lput_other h hb _ rfl hl p k f hk hf hfp hf0 hm
        | true =>
          rw [if_neg (fun h1 => h1.elim (fun h2 => hfp (by omega)) (fun h2 => by cases h2.2)), if_pos hf0]
          exact lput_member h hb _ rfl hl p k f hk hf hfp hf0 hm
end Go.Proofs.Ytcjjpffkmajehaa

/- The contract of the program's All. -/
namespace Go.Proofs.Ytcjjpffkmajehaa
open Go.RowKit

set_option maxRecDepth 100000 in
set_option maxHeartbeats 4000000 in
theorem allC : AllC := by
  intro w g base cap c A bs k x h hb hl hk hx
  have hk1 : ¬ (k : Int) < 0 := by omega
  have hk2 : ¬ 22 ≤ (k : Int) := by omega
  by_cases h0 : bs.length < 184
  · obtain rfl : none = x := by rw [← hx]; unfold allB; rw [if_pos h0]
    have HL := Lib.hid (len_any h)
    clear hx h
    go_enter Try.func55, Try.ntmps55
    go_wp2_with fail
    with_reducible refine HL.out.mono ?_
    rintro e w1 ⟨rfl, rfl⟩
    go_wp2
    go_ret2
    exact ⟨none, 0, rfl, World.ownsRow_nil _ _ _ _, Below.refl _ _⟩
  · obtain ⟨f, hf⟩ : ∃ f, wordN bs (8 + 8 * k) = f := ⟨_, rfl⟩
    obtain ⟨b, hbt⟩ : ∃ b, bitN (wordN bs 0) k = b := ⟨_, rfl⟩
    have hfl : f < 18446744073709551616 := by rw [← hf]; exact wordN_lt _ _
    have hx' : (if b ≠ decide (f ≠ 0) then none else allF bs k 1024 0 f) = x := by rw [← hx]; unfold allB; rw [if_neg h0, hf, hbt]
    have HL := Lib.hid (len_any h)
    have HFA := Lib.hid (lfirst_any w k hk)
    have HNF := Lib.hid (lnumber_any h hb hl (8 + 8 * (k : Int)) (8 + 8 * k) (by omega) (by omega) f hf)
    have HBT := Lib.hid (lhasbit_any h hb hl (by omega) k hk b hbt)
    have HAR := Lib.hid h
    have HBASE := Lib.hid hb
    obtain ⟨d, hd⟩ : ∃ d, decide (f ≠ 0) = d := ⟨_, rfl⟩
    have hd2 : ((f : Int) != 0) = d := by
      rw [← hd, Bool.eq_iff_iff, bne_iff_ne, decide_eq_true_eq]; omega
    rw [hd] at hx'
    clear hf hbt hx h hb
    by_cases hbd : b = d
    · subst hbd
      rw [if_neg (by simp)] at hx'
      obtain ⟨i0, hi, hz0, hz1, hz2⟩ := info_parts int_inf
      have HX := Lib.hid hx'
      obtain ⟨B0, hB0⟩ : ∃ B0, w.heap.size = B0 := ⟨_, rfl⟩
      have HB0 := Lib.hid hB0
      have hbb : (b != b) = false := by simp
      clear hx' hB0 hd
      go_enter Try.func55, Try.ntmps55
      go_wp2_with fail
      with_reducible refine HL.out.mono ?_
      rintro e w1 ⟨rfl, rfl⟩
      go_wp2_with fail
      with_reducible refine HFA.out.mono ?_
      rintro e w1 ⟨rfl, rfl⟩
      go_wp2_with fail
      with_reducible refine HNF.out.mono ?_
      rintro e w1 ⟨rfl, rfl⟩
      go_wp2_with fail
      with_reducible refine HBT.out.mono ?_
      rintro e w1 ⟨rfl, rfl⟩
      clear HL HFA HNF HBT
      go_wp2
      clear hd2
      go_loopw [6, 7, 8] (fun q o t wr => ∃ (p last n : Nat) (l : List Nat), q = .int .u64 (p : Int) ∧ t = .int .u64 (last : Int) ∧ p < 18446744073709551616 ∧ last < 18446744073709551616 ∧ n + l.length = 1024 ∧ x = (allF bs k n last p).map (l ++ ·) ∧ wr.ownsRow B0 3 1 o l.length (l.map iV) ∧ Below B0 w wr) (fun _ o _ _ => match o with | .slice _ n _ => 1024 - n | _ => 0)
      case atStart => exact ⟨f, 0, 1024, [], rfl, rfl, hfl, by omega, rfl, by rw [HX.out]; simp, World.ownsRow_nil _ _ _ _, Below.refl _ _⟩
      case round =>
        obtain ⟨p, last, n, l, rfl, rfl, hp, hlast, hn, hxl, hown, hbw⟩ := hrel
        obtain ⟨A7, c7, rfl⟩ := own_sl hown
        have hBw : B0 ≤ wr.heap.size := by have := hbw.size; have := HB0.out; omega
        by_cases hp0 : p = 0
        · subst hp0
          obtain rfl : x = some l := by rw [hxl]; cases n <;> simp [allF]
          have HB := Lib.hid hbw
          have HO := Lib.hid hown
          clear hxl hown hbw HX HAR HBASE
          go_wp2
          go_ret2
          exact ⟨A7, c7, rfl, by rw [HB0.out]; exact HO.out, by rw [HB0.out]; exact HB.out⟩
        · have hq0 : ((p : Int) != 0) = true := by rw [bne_iff_ne]; omega
          have har := HAR.out.below (by rw [HB0.out]; exact hbw)
          by_cases hn0 : n = 0
          · subst hn0
            obtain rfl : x = none := by rw [hxl]; simp [allF, hp0]
            have e1 : ((l.length : Int) == 1024) = true := by rw [beq_iff_eq]; omega
            have HB := Lib.hid hbw
            clear hxl hown hbw HX HAR HBASE har
            go_wp2
            go_ret2
            exact ⟨none, 0, rfl, World.ownsRow_nil _ _ _ _, by rw [HB0.out]; exact HB.out⟩
          · obtain ⟨n, rfl⟩ : ∃ n', n = n' + 1 := ⟨n - 1, by omega⟩
            have e1 : ((l.length : Int) == 1024) = false := by rw [beq_eq_false_iff_ne]; omega
            have hstep : x = (if memberB bs p (k : Int) = true ∧ wordN bs (p + 16) = last then (allF bs k n p (wordN bs (p + 8))).map (p :: ·) else none).map (l ++ ·) := by
              rw [hxl]
              conv => lhs; unfold allF
              rw [if_neg hp0]
            cases hm : memHas bs k p 16 last with
            | false =>
              rw [if_neg (by
                rintro ⟨h1, h2⟩
                unfold memHas at hm
                rw [h1, h2] at hm
                simp at hm)] at hstep
              obtain rfl : x = none := hstep
              have HM := Lib.hid (lhas_any har HBASE.out hl k p 16 last hk hp (by omega) false hm)
              have HB := Lib.hid hbw
              clear hxl hown hbw HX HAR HBASE har hm
              go_wp2_with fail
              refine HM.out.mono ?_
              rintro e w2 ⟨rfl, hb2⟩
              have HB2 := Lib.hid (HB.out.trans (hb2.mono hBw))
              clear hb2
              go_wp2
              go_ret2
              exact ⟨none, 0, rfl, World.ownsRow_nil _ _ _ _, by rw [HB0.out]; exact HB2.out⟩
            | true =>
              obtain ⟨hm1, hm2⟩ : memberB bs p (k : Int) = true ∧ wordN bs (p + 16) = last := by
                unfold memHas at hm
                rw [Bool.and_eq_true, beq_iff_eq] at hm
                exact hm
              have hpf := memberB_in hm1
              obtain ⟨nx, hnx⟩ : ∃ nx, wordN bs (p + 8) = nx := ⟨_, rfl⟩
              have hnl : nx < 18446744073709551616 := by rw [← hnx]; exact wordN_lt _ _
              rw [if_pos ⟨hm1, hm2⟩, hnx] at hstep
              have hstep' : x = (allF bs k n p nx).map ((l ++ [p]) ++ ·) := by
                rw [hstep, Option.map_map]
                congr 1
                funext r
                simp
              have hp16 : p ≤ 16384 := by omega
              have hww : w.heap.size ≤ wr.heap.size := by have := HB0.out; omega
              have HN := Lib.hid (fun W (hB : Below w.heap.size w W) => lnumber_any (HAR.out.below hB) HBASE.out hl ((p : Int) + 8) (p + 8) (by omega) (by omega) nx hnx)
              have HM := Lib.hid (lhas_any har HBASE.out hl k p 16 last hk hp (by omega) true hm)
              have HB := Lib.hid hbw
              have HS := Lib.hid hstep'
              have HOWN := Lib.hid hown
              have HALT : Hid (∀ k, (Value.slice A7 l.length c7).ownBlock = some k → B0 ≤ k ∧ k < wr.heap.size) := hown.lt
              clear hxl hstep hstep' hown hbw HX hm hm1 hm2 hnx har HAR HBASE
              go_wp2_with fail
              refine HM.out.mono ?_
              rintro e w2 ⟨rfl, hb2⟩
              have H2 := Lib.hid hb2
              have own4 := own_below' (own_below' HOWN.out hb2) ((Below.refl w2.heap.size w2).alloc (Nat.le_refl _) (.cells #[.int .i64 (p : Int)] 3))
              have n4 : (w2.alloc (.cells #[.int .i64 (p : Int)] 3)).heap[w2.heap.size]? = some (.cells #[.int .i64 (p : Int)] 3 (0, 0)) := heap_alloc_new w2 _
              have HNEW : Hid (∀ j u, [Value.int .i64 (p : Int)][j]? = some u → (w2.alloc (.cells #[.int .i64 (p : Int)] 3)).cell? ((⟨w2.heap.size, 0, none⟩ : Addr).add j) = some u) := fun j u hu => by
                have e : (⟨w2.heap.size, 0, none⟩ : Addr).add j = ⟨w2.heap.size, j, none⟩ := by unfold Addr.add; split <;> simp_all
                rw [e, cell_of_row _ _ j _ _ (0, 0) n4]
                simpa using hu
              have HONE : Hid (∀ u ∈ [Value.int .i64 (p : Int)], u.oneCell' = true) := fun u hu => by
                simp at hu
                subst hu; rfl
              have hB4 : B0 ≤ (w2.alloc (.cells #[.int .i64 (p : Int)] 3)).heap.size := by simp; have := hb2.size; omega
              have HB4 : Hid (Below w2.heap.size w2 (w2.alloc (.cells #[.int .i64 (p : Int)] 3))) := (Below.refl w2.heap.size w2).alloc (Nat.le_refl _) _
              have OWN4 := Lib.hid own4
              have hsz2 := hb2.size
              clear own4 n4 hb2 HOWN HM
              go_wp2_with (first
                | (at_builtin; go_must (refine wpList_append_own _ rfl _ _ 23 rfl B0 3 i0 _ 1 8 Try.underlying23 hi hz0 hz1 hz2 rfl (by decide) _ l.length (l.map iV) rfl OWN4.out ⟨w2.heap.size, 0, none⟩ 1 1 [.int .i64 (p : Int)] rfl rfl HNEW.out HONE.out (by unfold maxLen; omega) (by omega) hB4 ?_); intro x5 w5 own5 gr5 at5;
                   have gr5' : (w2.alloc (.cells #[.int .i64 (p : Int)] 3)).grownBy w5 (Value.slice A7 l.length c7).ownBlock := gr5; have HB5 : Hid (Below B0 wr w5) := ((H2.out.mono hBw).trans (HB4.out.mono (by omega))).grown gr5' hB4 (fun k hk => (HALT.out k hk).1); have HW5 : Hid (Below w.heap.size w w5) := (show Below w.heap.size w w5 by rw [HB0.out]; exact HB.out.trans HB5.out); have OWN5 : Hid (w5.ownsRow B0 3 1 x5 (l.length + 1) ((l ++ [p]).map iV)) := (show World.ownsRow _ _ _ _ _ _ _ by rw [List.map_append]; exact own5); clear own5 gr5 gr5' at5)
                | fail)
              refine (HN.out w5 HW5.out).mono ?_
              rintro e w6 ⟨rfl, rfl⟩
              have HBE := Lib.hid (HB.out.trans HB5.out)
              clear HN H2 HB4 OWN4 HNEW HONE
              go_wp2
              go_roundw
              case rel => exact ⟨nx, p, n, l ++ [p], rfl, rfl, hnl, hp, by rw [List.length_append, List.length_singleton]; omega, HS.out, by rw [List.length_append, List.length_singleton]; exact OWN5.out, HBE.out⟩
              case measure =>
                obtain ⟨A8, c8, rfl⟩ := own_sl OWN5.out
                simp; omega
    · rw [if_pos hbd] at hx'
      obtain rfl : none = x := hx'
      have hcs : (b = true ∧ d = false) ∨ (b = false ∧ d = true) := by cases b <;> cases d <;> simp_all
      clear hd hbd HAR HBASE
      rcases hcs with ⟨rfl, rfl⟩ | ⟨rfl, rfl⟩
      all_goals
        go_enter Try.func55, Try.ntmps55
        go_wp2_with fail
        with_reducible refine HL.out.mono ?_
        rintro e w1 ⟨rfl, rfl⟩
        go_wp2_with fail
        with_reducible refine HFA.out.mono ?_
        rintro e w1 ⟨rfl, rfl⟩
        go_wp2_with fail
        with_reducible refine HNF.out.mono ?_
        rintro e w1 ⟨rfl, rfl⟩
        go_wp2_with fail
        with_reducible refine HBT.out.mono ?_
        rintro e w1 ⟨rfl, rfl⟩
        clear HL HFA HNF HBT
        go_wp2
        go_ret2
        exact ⟨none, 0, rfl, World.ownsRow_nil _ _ _ _, Below.refl _ _⟩
end Go.Proofs.Ytcjjpffkmajehaa

/- Layer 9's laws: the head (the document's example). -/
namespace Go.Proofs.Ytcjjpffkmajehaa
open Go.RowKit

def up9L : List Bk := [⟨184, 32, false⟩, ⟨216, 32, true⟩, ⟨248, 32, false⟩]
theorem up9_tile : tile 184 up9L 280 := ⟨rfl, by decide, rfl, by decide, rfl, by decide, rfl⟩
theorem setAll_len {l : List Bk} {bs : List UInt8} {o e : Nat} (h : tile o l e) (he : e ≤ bs.length) : ∀ j, (setAll bs (l.take j)).length = bs.length := fun j => go (l.take j) bs (fun x hx => by
    have := (tile_mem l o e h).2 x (List.mem_of_mem_take hx); exact ⟨this.2.2.1, by omega⟩)
where go : ∀ (l : List Bk) (bs : List UInt8), (∀ x ∈ l, isSz (x.size : Int) = true ∧ x.off + x.size ≤ bs.length) → (setAll bs l).length = bs.length
  | [], _, _ => rfl
  | x :: r, bs, h => by
    have h1 := h x (List.mem_cons_self ..)
    have e := setT_length (bs := bs) h1.1 h1.2
    show (setAll (setT bs x) r).length = _
    rw [go r _ (fun y hy => by rw [e]; exact h y (List.mem_cons_of_mem _ hy)), e]
theorem setAll_next {l : List Bk} {bs : List UInt8} {o e j : Nat} {x : Bk} (h : tile o l e) (ho : 184 ≤ o) (ho2 : o % 16 = 8) (he : e ≤ bs.length) (hx : l[j]? = some x) :
    setB (setAll bs (l.take j)) (x.off : Int) (x.size : Int) x.used = some (setAll bs (l.take (j + 1))) ∧ x.off + x.size ≤ bs.length := by
  have hm := (tile_mem l o e h).2 x (List.mem_of_getElem? hx)
  have hnx : setAll bs (l.take (j + 1)) = setT (setAll bs (l.take j)) x := by
    unfold setAll
    rw [List.take_add_one, hx, List.foldl_append]
    rfl
  rw [hnx]
  exact ⟨setB_of _ x (by omega) (by omega) (by rw [setAll_len h he]; omega) hm.2.2.1, by omega⟩
/-- Zeros, with blocks set one behind the other: they stand, and all lists are empty. -/
theorem lists_set {l : List Bk} {n : Nat} (h : tile 184 l n) (hn : n ≤ 16384) : Lists (setAll (List.replicate n 0) l) l (fun _ => []) := by
  have hn0 := (tile_mem l 184 n h).1
  obtain ⟨a1, a2, _, a4⟩ := setAll_spec l (List.replicate n 0) 184 n (Nat.le_refl _) rfl h (by rw [List.length_replicate]; exact Nat.le_refl _)
  rw [List.length_replicate] at a1
  refine lists_none (by omega) (by omega) ⟨a2, tile_apart l 184 n h⟩ (fun p hp _ => ?_)
  rw [a4 p (.inl hp)]
  have := wordN_zeros [] n p (by omega)
  rwa [List.append_nil] at this

theorem up9_bytes : ∃ z o0 o1 o2 : List UInt8, List.replicate 280 (0 : UInt8) = z ∧ z.length = 280 ∧ setAll z up9L = o0 ∧ o0.length = 280 ∧ o1.length = 280 ∧ o2.length = 280 ∧ putB o0 184 = some o1 ∧ putB o1 248 = some o2 ∧ putB o2 216 = none ∧ allB o2 0 = some [248, 184] := by
  have h0 := lists_set up9_tile (by decide)
  have l0 := setAll_len (bs := List.replicate 280 0) up9_tile (by rw [List.length_replicate]; exact Nat.le_refl _) 3
  rw [List.length_replicate] at l0
  have c0 : classI ((32 : Nat) : Int) = ((0 : Nat) : Int) := by decide
  obtain ⟨o1, p1, h1, l1, _⟩ := h0.put (x := ⟨184, 32, false⟩) (by simp [up9L]) rfl c0 (by omega) (by simp)
  obtain ⟨o2, p2, h2, l2, _⟩ := h1.put (x := ⟨248, 32, false⟩) (by simp [up9L]) rfl c0 (by omega) (by simp [setL])
  have ha := h2.all (c := 0) (by omega) (by simp [setL])
  refine ⟨_, _, o1, o2, rfl, List.length_replicate, rfl, l0, l1.trans l0, l2.trans (l1.trans l0), p1, p2, ?_, by rw [ha]; rfl⟩
  have hg := h2.st.at_ ⟨216, 32, true⟩ (by simp [up9L])
  have hf : freeI o2 216 < 0 := by
    have e : getB o2 216 = some ⟨216, 32, true⟩ := hg
    unfold freeI
    rw [e]
    simp
  unfold putB
  dsimp only
  rw [if_pos hf]

end Go.Proofs.Ytcjjpffkmajehaa

/- A row of lists of numbers in memory, beside an arena and a row of bools: how it stands in the walk of ListFirst. -/
namespace Go.Proofs.Ytcjjpffkmajehaa
open Go.RowKit

/-- Numbers in a row that is none of the blocks of S. -/
def Rw (S : Nat → Prop) (w : World) (A : Option Addr) (l : List Nat) : Prop := 0 < l.length → ∃ b o, A = some ⟨b, o, none⟩ ∧ b < w.heap.size ∧ ¬ S b ∧ ∀ (j x : Nat), l[j]? = some x → w.cell? ⟨b, o + j, none⟩ = some (.int .i64 (x : Int))
/-- A row of 22 lists. -/
structure Ls (S : Nat → Prop) (w : World) (gl : Nat) (L : Nat → List Nat) (cs : List Value) : Prop where
  len : cs.length = 22
  row : w.heap[gl]? = some (.cells cs.toArray 23 (0, 0))
  at_ : ∀ d, d < 22 → ∃ A c, cs[d]? = some (.slice A (L d).length c) ∧ (A = none → c = 0) ∧ Rw S w A (L d)

section
variable {S S' : Nat → Prop} {w w' : World} {gl : Nat} {L : Nat → List Nat} {cs : List Value} {A : Option Addr} {l : List Nat}
theorem Rw.nil (h : l = []) : Rw S w A l := fun h0 => by subst h; exact absurd h0 (by simp)
theorem Rw.keep (h : Rw S w A l) (hz : w.heap.size ≤ w'.heap.size) (hk : ∀ k, k < w.heap.size → ¬ S k → w'.heap[k]? = w.heap[k]? ∧ ¬ S' k) : Rw S' w' A l := fun h0 => by
  obtain ⟨b, o, e, hb, hn, hc⟩ := h h0
  obtain ⟨k1, k2⟩ := hk b hb hn
  exact ⟨b, o, e, Nat.lt_of_lt_of_le hb hz, k2, fun j x hx => (World.cell?_of_block (w := w) (a := ⟨b, o + j, none⟩) k1).trans (hc j x hx)⟩
theorem Rw.reads (h : Rw S w A l) : IRd w w.heap.size A (nats l) := fun h0 => by
  obtain ⟨b, o, e, hb, _, hc⟩ := h (by simpa [nats] using h0)
  refine ⟨b, o, e, hb, fun j x hx => ?_⟩
  rw [nats, List.getElem?_map] at hx
  cases hl : l[j]? with
  | none => rw [hl] at hx; cases hx
  | some y => rw [hl] at hx; injection hx with hx; rw [← hx]; exact hc j y hl
theorem Ls.keep (h : Ls S w gl L cs) (hz : w.heap.size ≤ w'.heap.size) (hg : w'.heap[gl]? = w.heap[gl]?) (hk : ∀ k, k < w.heap.size → ¬ S k → w'.heap[k]? = w.heap[k]? ∧ ¬ S' k) : Ls S' w' gl L cs :=
  ⟨h.len, hg.trans h.row, fun d hd => by obtain ⟨A, c, e, n, r⟩ := h.at_ d hd; exact ⟨A, c, e, n, r.keep hz hk⟩⟩
theorem Ls.cell (h : Ls S w gl L cs) {d : Nat} (hd : d < 22) : ∃ A c, w.cell? ⟨gl, d, none⟩ = some (.slice A (L d).length c) ∧ (A = none → c = 0) ∧ Rw S w A (L d) := by
  obtain ⟨A, c, e, n, r⟩ := h.at_ d hd
  refine ⟨A, c, ?_, n, r⟩
  rw [cell_of_row w gl d _ _ (0, 0) h.row]
  simpa using e
theorem Ls.set (h : Ls S w gl L cs) (hS : S gl) {d : Nat} (hd : d < 22) {A1 : Option Addr} {c1 : Nat} {l1 : List Nat} (hA1 : A1 = none → c1 = 0) (hr : Rw S w A1 l1) :
    Ls S (w.setCell ⟨gl, d, none⟩ (.slice A1 l1.length c1)) gl (setL L d l1) (cs.set d (.slice A1 l1.length c1)) := by
  have hz : w.heap.size ≤ (w.setCell ⟨gl, d, none⟩ (.slice A1 l1.length c1)).heap.size := by simp [World.setCell]
  have hk : ∀ k, k < w.heap.size → ¬ S k → (w.setCell ⟨gl, d, none⟩ (.slice A1 l1.length c1)).heap[k]? = w.heap[k]? ∧ ¬ S k := fun k _ hn => ⟨Below.heap_setCell w ⟨gl, d, none⟩ _ k (fun e => hn (e ▸ hS)), hn⟩
  refine ⟨by rw [List.length_set]; exact h.len, ?_, fun e he => ?_⟩
  · have := heap_setCell_same w gl d _ _ (.slice A1 l1.length c1) h.row
    rw [this]
    simp
  · by_cases hed : e = d
    · subst hed
      refine ⟨A1, c1, ?_, hA1, ?_⟩
      · rw [List.getElem?_set_self (by rw [h.len]; exact hd)]
        simp [setL]
      · have e2 : setL L e l1 e = l1 := by simp [setL]
        rw [e2]; exact hr.keep hz hk
    · obtain ⟨A, c, e1, n1, r⟩ := h.at_ e he
      have e2 : setL L d l1 e = L e := by simp [setL, hed]
      refine ⟨A, c, ?_, n1, ?_⟩
      · rw [List.getElem?_set_ne (fun h => hed h.symm), e2]; exact e1
      · rw [e2]; exact r.keep hz hk
end

/-- The arena's blocks, the row of lists, the row of bools. -/
def Sx (g : Nat) (A : Option Addr) (gl gi : Nat) (k : Nat) : Prop := k = gl ∨ k = gi ∨ foot g A k
/-- How all stands in ListFirst's great loop. -/
structure Lf (wB W : World) (g : Nat) (A : Option Addr) (c : Nat) (bs : List UInt8) (gl gi : Nat) (L : Nat → List Nat) (cs : List Value) (inn : List Bool) : Prop where
  st : St wB W g 32 16384 A c bs []
  ls : Ls (Sx g A gl gi) W gl L cs
  ir : W.heap[gi]? = some (.cells (inn.map Value.bool).toArray 4 (0, 0))
  nl : ¬ foot g A gl
  ni : ¬ foot g A gi
  ne : gl ≠ gi
  lB : wB.heap.size ≤ gl
  iB : wB.heap.size ≤ gi

section
variable {wB W W' : World} {g c gl gi : Nat} {A : Option Addr} {bs : List UInt8} {L : Nat → List Nat} {cs : List Value} {inn : List Bool}
theorem Lf.below (h : Lf wB W g A c bs gl gi L cs inn) (hb : Below W.heap.size W W') : Lf wB W' g A c bs gl gi L cs inn :=
  ⟨h.st.below hb, h.ls.keep hb.size (hb.block gl (heap_lt h.ls.row)) (fun k hk hn => ⟨hb.block k hk, hn⟩), (hb.block gi (heap_lt h.ir)).trans h.ir, h.nl, h.ni, h.ne, h.lB, h.iB⟩
theorem Lf.became {out : List UInt8} (h : Lf wB W g A c bs gl gi L cs inn) (hb : Became 90 g 32 16384 A out W W') : ∃ A' c', Lf wB W' g A' c' out gl gi L cs inn := by
  obtain ⟨A', c', har, ht, hA⟩ := hb
  have hnf : ∀ k, k < W.heap.size → ¬ foot g A k → ¬ foot g A' k := fun k hk hn hf => by
    rcases hf with rfl | ⟨a, e, rfl⟩
    · exact hn (.inl rfl)
    · rcases hA with hA | hA
      · exact hn (.inr ⟨a, hA ▸ e, rfl⟩)
      · have := hA a e; omega
  have hgl := heap_lt h.ls.row
  have hgi := heap_lt h.ir
  have hbl : Below wB.heap.size W W' := ht.below (fun k hk => by
    rcases hk with rfl | ⟨a, e, rfl⟩
    · exact h.st.gB
    · exact h.st.aB a e) h.st.size
  refine ⟨A', c', ⟨h.st.bel.trans hbl, har, h.st.gB, fun a ha => ?_, fun p hp => by cases hp⟩, h.ls.keep ht.size (ht.block gl hgl h.nl) (fun k hk hn => ?_), (ht.block gi hgi h.ni).trans h.ir, hnf gl hgl h.nl, hnf gi hgi h.ni, h.ne, h.lB, h.iB⟩
  · rcases hA with hA | hA
    · exact h.st.aB a (hA ▸ ha)
    · exact Nat.le_trans h.st.size (hA a ha)
  · refine ⟨ht.block k hk (fun hf => hn (.inr (.inr hf))), fun hs => ?_⟩
    rcases hs with e | e | hf
    · exact hn (.inl e)
    · exact hn (.inr (.inl e))
    · exact hnf k hk (fun h' => hn (.inr (.inr h'))) hf
theorem St.setB (h : St wB W g 32 16384 A c bs []) {k : Nat} (hk : ¬ foot g A k) (hB : wB.heap.size ≤ k) (i : Nat) (u : Value) : St wB (W.setCell ⟨k, i, none⟩ u) g 32 16384 A c bs [] :=
  ⟨h.bel.setCell (p := ⟨k, i, none⟩) hB u, h.ar.keep fun j hj => Below.heap_setCell W ⟨k, i, none⟩ u j (fun e => hk (by subst e; exact hj)), h.gB, h.aB, fun p hp => by cases hp⟩
theorem Lf.mark (h : Lf wB W g A c bs gl gi L cs inn) (k : Nat) (b : Bool) : Lf wB (W.setCell ⟨gi, k, none⟩ (.bool b)) g A c bs gl gi L cs (inn.set k b) := by
  refine ⟨h.st.setB h.ni h.iB k _, h.ls.keep (by simp [World.setCell]) (Below.heap_setCell W ⟨gi, k, none⟩ _ gl h.ne) (fun j _ hn => ⟨Below.heap_setCell W ⟨gi, k, none⟩ _ j (fun e => hn (.inr (.inl e))), hn⟩), ?_, h.nl, h.ni, h.ne, h.lB, h.iB⟩
  have := heap_setCell_same W gi k _ _ (.bool b) h.ir
  rw [this, List.map_set]
  simp
theorem Lf.put (h : Lf wB W g A c bs gl gi L cs inn) {d : Nat} (hd : d < 22) {A1 : Option Addr} {c1 : Nat} {l1 : List Nat} (hA1 : A1 = none → c1 = 0) (hr : Rw (Sx g A gl gi) W A1 l1) :
    Lf wB (W.setCell ⟨gl, d, none⟩ (.slice A1 l1.length c1)) g A c bs gl gi (setL L d l1) (cs.set d (.slice A1 l1.length c1)) inn :=
  ⟨h.st.setB h.nl h.lB d _, h.ls.set (.inl rfl) hd hA1 hr, (Below.heap_setCell W ⟨gl, d, none⟩ _ gi (fun e => h.ne e.symm)).trans h.ir, h.nl, h.ni, h.ne, h.lB, h.iB⟩
/-- A row of this call's own, made since W, is none of those. -/
theorem Lf.fresh (h : Lf wB W g A c bs gl gi L cs inn) {k : Nat} (hk : W.heap.size ≤ k) : ¬ Sx g A gl gi k := fun hs => by
  rcases hs with rfl | rfl | hf
  · have := heap_lt h.ls.row; omega
  · have := heap_lt h.ir; omega
  · have := h.st.ar.foot_lt hf; omega
theorem Lf.bool (h : Lf wB W g A c bs gl gi L cs inn) {k : Nat} {b : Bool} (hk : inn[k]? = some b) : W.cell? ⟨gi, k, none⟩ = some (.bool b) := by
  rw [cell_of_row W gi k _ _ (0, 0) h.ir]
  simp [hk]
end
end Go.Proofs.Ytcjjpffkmajehaa

/- Free blocks parted by used ones, and which of them are in their lists: ListFirst's plain part. No program in sight. -/
namespace Go.Proofs.Ytcjjpffkmajehaa

/-- Each with a used one of 32 bytes behind it. -/
def inter : List Bk → List Bk
  | [] => []
  | x :: r => x :: ⟨x.off + x.size, 32, true⟩ :: inter r
theorem inter_snoc (l : List Bk) (x : Bk) : inter (l ++ [x]) = (inter l ++ [x]) ++ [⟨x.off + x.size, 32, true⟩] := by
  induction l with
  | nil => rfl
  | cons y r ih => simp [inter, ih]
theorem inter_len (l : List Bk) : (inter l).length = 2 * l.length := by
  induction l with
  | nil => rfl
  | cons y r ih => simp [inter, ih]; omega
theorem inter_get : ∀ (l : List Bk) (j : Nat) (x : Bk), l[j]? = some x → (inter l)[2 * j]? = some x ∧ (inter l)[2 * j + 1]? = some ⟨x.off + x.size, 32, true⟩
  | [], j, x, h => by simp at h
  | y :: r, 0, x, h => by
    simp at h; subst h
    exact ⟨rfl, rfl⟩
  | y :: r, j + 1, x, h => by
    have ih := inter_get r j x (by simpa using h)
    have e : 2 * (j + 1) = 2 * j + 1 + 1 := by omega
    rw [e]
    exact ⟨by simpa [inter] using ih.1, by simpa [inter] using ih.2⟩
theorem inter_mem {l : List Bk} {x : Bk} (h : x ∈ l) : x ∈ inter l := by
  obtain ⟨j, hj⟩ := List.getElem?_of_mem h
  exact List.mem_of_getElem? (inter_get l j x hj).1
theorem inter_sub (l : List Bk) : l.Sublist (inter l) := by
  induction l with
  | nil => exact List.Sublist.slnil
  | cons y r ih => exact (ih.cons _).cons_cons y
theorem inter_ne {l : List Bk} {e : Nat} (h : tile 184 (inter l) e) {j k : Nat} {x y : Bk} (hj : l[j]? = some x) (hk : l[k]? = some y) (hne : j ≠ k) : x.off ≠ y.off := by
  have hp := (tile_ne (inter l) 184 e h).sublist (inter_sub l)
  rw [List.pairwise_iff_getElem] at hp
  obtain ⟨j1, rfl⟩ := List.getElem?_eq_some_iff.1 hj
  obtain ⟨k1, rfl⟩ := List.getElem?_eq_some_iff.1 hk
  rcases Nat.lt_or_gt_of_ne hne with h1 | h1
  · exact hp j k j1 k1 h1
  · exact fun e => hp k j k1 j1 h1 e.symm

/-- Which are in their lists. -/
def InL (fr : List Bk) (inn : List Bool) (L : Nat → List Nat) : Prop := ∀ (k : Nat) (x : Bk) (c : Nat), fr[k]? = some x → classI (x.size : Int) = (c : Int) → (inn[k]? = some true ↔ x.off ∈ L c)
section
variable {fr : List Bk} {inn : List Bool} {L : Nat → List Nat} {e k c : Nat} {x : Bk}
theorem InL.put (h : InL fr inn L) (ht : tile 184 (inter fr) e) (hx : fr[k]? = some x) (hc : classI (x.size : Int) = (c : Int)) (hk : k < inn.length) : InL fr (inn.set k true) (setL L c (x.off :: L c)) := fun j y d hy hd => by
  by_cases hjk : j = k
  · subst hjk
    obtain rfl : y = x := Option.some.inj (hy.symm.trans hx)
    obtain rfl : d = c := by omega
    rw [List.getElem?_set_self hk]
    simp [setL]
  · have hne := inter_ne ht hy hx hjk
    rw [List.getElem?_set_ne (fun h => hjk h.symm), h j y d hy hd]
    unfold setL
    split
    · rename_i e; subst e; simp [hne]
    · exact Iff.rfl
theorem InL.take (h : InL fr inn L) (ht : tile 184 (inter fr) e) (hx : fr[k]? = some x) (hc : classI (x.size : Int) = (c : Int)) (hk : k < inn.length) : InL fr (inn.set k false) (setL L c ((L c).filter fun q => decide (q ≠ x.off))) := fun j y d hy hd => by
  by_cases hjk : j = k
  · subst hjk
    obtain rfl : y = x := Option.some.inj (hy.symm.trans hx)
    obtain rfl : d = c := by omega
    rw [List.getElem?_set_self hk]
    simp [setL]
  · have hne := inter_ne ht hy hx hjk
    rw [List.getElem?_set_ne (fun h => hjk h.symm), h j y d hy hd]
    unfold setL
    split
    · rename_i e; subst e; simp [hne]
    · exact Iff.rfl
end
theorem setL_len {L : Nat → List Nat} {c n m : Nat} {l : List Nat} (h : ∀ d, (L d).length ≤ n) (hl : l.length ≤ m) (hm : n ≤ m) : ∀ d, (setL L c l d).length ≤ m := fun d => by
  unfold setL
  split
  · exact hl
  · exact Nat.le_trans (h d) hm
end Go.Proofs.Ytcjjpffkmajehaa

/- The walk of ListFirst. -/
namespace Go.Proofs.Ytcjjpffkmajehaa
open Go.RowKit

theorem bool_infb : (Try.prog.info? 4).map (fun i => (i.zero, i.size, i.bytes)) = some (some (.bool false), 1, 1) := by kernel_rfl
theorem sl_infb : (Try.prog.info? 23).map (fun i => (i.zero, i.size, i.bytes)) = some (some (.slice none 0 0), 1, 24) := by kernel_rfl
theorem made_one (z : Value) (n : Nat) : madeCells #[z] n = (List.replicate n z).toArray := by
  apply Array.ext
  · simp [madeCells]
  · intro i h1 h2
    simp [madeCells, Nat.mod_one]
theorem mk_bools (n : Nat) (hn : n ≤ 1000) (W : World) : (Instr.makeSlice 40 (.int .i64 (n : Int)) (.int .i64 (n : Int))).run Try.prog W = .ok (.slice (some ⟨W.heap.size, 0, none⟩) n n) (W.alloc (.cells ((List.replicate n false).map Value.bool).toArray 4)) := by
  have h := run_make_row' (P := Try.prog) 40 4 (.bool false) 1 Try.underlying40 bool_infb rfl .i64 .i64 n (by omega) (by omega) W
  rw [h, made_one, List.map_replicate]
theorem run_one_int (w : World) (x : Int) : (Instr.buildSlice 23 1 #[(0, .int .i64 x)]).run Try.prog w = .ok (.slice (some ⟨w.heap.size, 0, none⟩) 1 1) (w.alloc (.cells #[.int .i64 x] 3)) := by
  obtain ⟨i0, hi, hz0, hz1, hz2⟩ := info_parts int_inf
  refine run_buildSlice w 23 3 1 _ _ i0 _ Try.underlying23 hi hz0 (by omega) (by omega) ?_
  rw [hz1]
  have e : Array.range (1 * 1) = #[0] := by decide
  rw [e]
  simp [Instr.fill, Value.cells]
theorem iv_one (l : List Nat) : ∀ u ∈ l.map iV, u.oneCell' = true := by
  intro u hu
  obtain ⟨x, _, rfl⟩ := List.mem_map.1 hu
  rfl
theorem rw_cells {S : Nat → Prop} {w : World} {ad : Addr} {l : List Nat} (h : Rw S w (some ad) l) : ∀ j u, (l.map iV)[j]? = some u → w.cell? (ad.add j) = some u := by
  intro j u hu
  rw [List.getElem?_map, Option.map_eq_some_iff] at hu
  obtain ⟨x, hx, rfl⟩ := hu
  have hj : j < l.length := by
    rcases Nat.lt_or_ge j l.length with h1 | h1
    · exact h1
    · rw [List.getElem?_eq_none h1] at hx; cases hx
  obtain ⟨b, off, e, _, _, hc⟩ := h (by omega)
  cases e
  have e : (⟨b, off, none⟩ : Addr).add j = ⟨b, off + j, none⟩ := by unfold Addr.add; split <;> simp_all
  rw [e]
  exact hc j x hx
theorem own_one (w : World) (x : Nat) : (w.alloc (.cells #[.int .i64 (x : Int)] 3)).ownsRow w.heap.size 3 1 (.slice (some ⟨w.heap.size, 0, none⟩) 1 1) 1 ([x].map iV) :=
  ⟨rfl, .inr ⟨w.heap.size, 1, _, rfl, Nat.le_refl _, heap_alloc_new w _, Nat.le_refl _, by unfold maxLen; omega, rfl, rfl⟩⟩
theorem nats_len (l : List Nat) : (nats l).length = l.length := by simp [nats]
/-- append(own, src...) for numbers. -/
theorem append_ints {ops : Array Oper} {rest : List Oper} {o : Oper} {a : Act} {w : World} {Q : Exit → Act → World → Prop} (hgd : o.guard = none) (s x : Operand) (ho : o.op = .call { callee := .builtin .append, args := #[s, x], argTypes := #[23, 23] })
    (base : Nat) (v : Value) (n : Nat) (bs : List Nat) (hs : a.eval s = v) (hown : w.ownsRow base 3 1 v n (bs.map iV))
    (S : Nat → Prop) (A : Option Addr) (c : Nat) (cs : List Nat) (hx : a.eval x = .slice A cs.length c) (hr : Rw S w A cs) (hA : A = none → c = 0)
    (hb : n + cs.length ≤ 1000000) (hbase : base ≤ w.heap.size)
    (h : ∀ v' w', w'.ownsRow base 3 1 v' (n + cs.length) ((bs ++ cs).map iV) → w.grownBy w' v.ownBlock → wpList Try.prog ops Q rest (a.put o.dst v') w') : wpList Try.prog ops Q (o :: rest) a w := by
  obtain ⟨i0, hi, hz0, hz1, hz2⟩ := info_parts int_inf
  rcases A with _ | ad
  · obtain rfl := hA rfl
    have hm : cs.length = 0 := by
      rcases Nat.eq_zero_or_pos cs.length with h0 | h0
      · exact h0
      · obtain ⟨_, _, e1, _⟩ := hr h0
        cases e1
    obtain rfl : cs = [] := List.eq_nil_of_length_eq_zero hm
    refine wpList_append_own_none hgd s x 23 ho base 3 i0 1 Try.underlying23 hi v n _ hs hown hx ?_
    exact h v w (by simpa using hown) (World.grownBy.refl w _)
  · refine wpList_append_own w hgd s x 23 ho base 3 i0 (.int .i64 0) 1 8 Try.underlying23 hi hz0 hz1 hz2 rfl (by decide) v n _ hs hown ad cs.length c (cs.map iV) hx (by simp) (rw_cells hr) (iv_one cs) (by unfold maxLen; omega) (by omega) hbase ?_
    intro v' w' h1 h2 _
    exact h v' w' (by simpa using h1) h2
/-- A row of this call's own is none of what was there. -/
theorem rw_own {S : Nat → Prop} {w : World} {base n : Nat} {A : Option Addr} {c : Nat} {l : List Nat} (h : w.ownsRow base 3 1 (.slice A n c) n (l.map iV)) (hn : n = l.length) (hS : ∀ k, base ≤ k → ¬ S k) : Rw S w A l ∧ (A = none → c = 0) := by
  refine ⟨fun h0 => ?_, fun e => ?_⟩
  · rcases h.2 with ⟨_, h0'⟩ | ⟨g, _, _, h', _⟩
    · omega
    · injection h' with e
      subst e
      refine ⟨g, 0, rfl, (h.lt g rfl).2, hS g (h.lt g rfl).1, fun j x hx => ?_⟩
      have hj : j < l.length := by
        rcases Nat.lt_or_ge j l.length with h | h
        · exact h
        · rw [List.getElem?_eq_none h] at hx; cases hx
      rw [Nat.zero_add, h.cellAt j (by omega), List.getElem?_map, hx]
      rfl
  · subst e
    rcases h.2 with ⟨h', _⟩ | ⟨_, _, _, h', _⟩
    · injection h' with _ _ e
    · injection h' with e; cases e
end Go.Proofs.Ytcjjpffkmajehaa


/- What the program's fits (layer 10) are to tell: the words in which the laws ask for it. -/
namespace Go.Proofs.Ytcjjpffkmajehaa
open Go.RowKit

/-- What Find tells. -/
def findV (bs : List UInt8) (s : Int) : Value := if isSz s = true then .tuple #[.int .i64 (((findB bs s).getD 0 : Nat) : Int), errV (findB bs s).isSome 3] else .tuple #[.int .i64 0, errV false 1]
def RebuildC : Prop := ∀ (w : World) (g base cap c : Nat) (A : Option Addr) (bs : List UInt8) (y : Option (List UInt8)), Ar w 90 g base cap A c bs → base ≤ 4611686018427387904 → bs.length ≤ 16384 → rebuildB bs = y →
  Calls Try.prog 16 #[.pointer (some ⟨g, 0, none⟩)] w fun e w' => Done 3 90 g base cap A y w e w'
end Go.Proofs.Ytcjjpffkmajehaa

/- The program's fits (layer 10): the lists cleared, a block put behind others, the first of a list that has so many bytes. -/
namespace Go.Proofs.Ytcjjpffkmajehaa
open Go.RowKit

section
variable {w : World} {g base cap c : Nat} {A : Option Addr} {bs : List UInt8}
set_option maxHeartbeats 400000 in
theorem lclear_yes (h : Ar w 90 g base cap A c bs) (hb : base ≤ 4611686018427387904) (hl : bs.length ≤ 16384) (h184 : 184 ≤ bs.length) (z : List UInt8) (hz : List.replicate 184 (0 : UInt8) ++ bs.drop 184 = z) :
    Calls Try.prog 41 #[.pointer (some ⟨g, 0, none⟩)] w fun e w' => e = .returned .nilIface ∧ Became 90 g base cap A z w w' := by
  have HA := Lib.hid (base_any h)
  have hf := fill_ok h (by omega) base 184 0 0 (by omega) (by omega) (by omega) (by omega)
  have e : lay bs 0 (List.replicate 184 (0 : UInt8)) = z := by
    have e1 : (List.replicate 184 (0 : UInt8)).length = 184 := List.length_replicate
    rw [← hz]
    unfold lay
    rw [e1, Nat.zero_add, List.take_zero, List.nil_append]
  rw [e] at hf
  have HF : Hid (Calls Try.prog 60 #[.pointer (some ⟨g, 0, none⟩), .int .u64 (base : Int), .int .u64 184, .int .u8 0] w fun e w' => e = .returned .nilIface ∧ Became 90 g base cap A z w w') := hf
  clear hf e hz h
  go_enter Try.func41, Try.ntmps41
  go_wp2_with fail
  with_reducible refine HA.out.mono ?_
  rintro e w1 ⟨rfl, rfl⟩
  go_wp2_with fail
  refine HF.out.mono ?_
  rintro e w1 ⟨rfl, hbe⟩
  have HB := Lib.hid hbe
  clear hbe
  go_wp2
  go_ret
  exact ⟨rfl, HB.out⟩
end

section
variable {w w1 w2 : World} {g base cap : Nat} {A : Option Addr} {out : List UInt8}
theorem became_below (h : Became 90 g base cap A out w w1) (hb : Below w1.heap.size w1 w2) : Became 90 g base cap A out w w2 := by
  obtain ⟨A', c', a, tc, k⟩ := h
  exact Became.trans a tc k (became_of a hb)
theorem putB_len (h : 184 ≤ out.length) (o : Int) : ((putB out o).getD out).length = out.length := by
  cases hp : putB out o with
  | none => rfl
  | some y => exact (putB_high h hp).1
/-- A block that is put behind others; with an error nothing changes. -/
theorem became_put (h : Became 90 g base cap A out w w1) (hb : base ≤ 4611686018427387904) (hl : out.length ≤ 16384) (o : Int) (ho : -9223372036854775808 ≤ o ∧ o ≤ 9223372036854775807) :
    Calls Try.prog 42 #[.pointer (some ⟨g, 0, none⟩), .int .i64 o] w1 fun e w2 => (∃ v, e = .returned v) ∧ Became 90 g base cap A ((putB out o).getD out) w w2 := by
  obtain ⟨A', c', a, tc, k⟩ := h
  refine (putC w1 g base cap c' A' out o _ a hb hl ho rfl).mono ?_
  intro e w2 hd
  unfold Done at hd
  cases hp : putB out o with
  | none =>
    rw [hp] at hd
    exact ⟨⟨_, hd.1⟩, Became.trans a tc k (became_of a hd.2)⟩
  | some y =>
    rw [hp] at hd
    exact ⟨⟨_, hd.1⟩, Became.trans a tc k hd.2⟩
end

section
variable {w : World} {g base cap c : Nat} {A : Option Addr} {bs : List UInt8}
end
end Go.Proofs.Ytcjjpffkmajehaa

/- The contract of the program's Find. -/
namespace Go.Proofs.Ytcjjpffkmajehaa
open Go.RowKit

end Go.Proofs.Ytcjjpffkmajehaa

/- The contract of the program's Rebuild. -/
namespace Go.Proofs.Ytcjjpffkmajehaa
open Go.RowKit

theorem rebF_len {out : List UInt8} (h : 184 ≤ out.length) (x : Bk) : (rebF out x).length = out.length := by
  unfold rebF
  split
  · rfl
  · exact putB_len h _
theorem rebs_len : ∀ (l : List Bk) {out : List UInt8}, 184 ≤ out.length → (l.foldl rebF out).length = out.length
  | [], _, _ => rfl
  | x :: r, out, h => by
    rw [List.foldl_cons, rebs_len r (by rw [rebF_len h]; exact h), rebF_len h]

theorem tch_cell {S : Nat → Prop} {w w' : World} (h : Tch S w w') {b j : Nat} {v : Value} (hc : w.cell? ⟨b, j, none⟩ = some v) (hb : b < w.heap.size) (hn : ¬ S b) : w'.cell? ⟨b, j, none⟩ = some v :=
  (World.cell?_of_block (w := w) (a := ⟨b, j, none⟩) (h.block b hb hn)).trans hc

set_option maxRecDepth 100000 in
set_option maxHeartbeats 2000000 in
theorem rebuildC : RebuildC := by
  intro w g base cap c A bs y h hb hl hy
  cases hw : walkB bs with
  | none =>
    obtain rfl : none = y := by rw [← hy]; unfold rebuildB; rw [hw]; rfl
    have hW := walkC w g base cap c A bs _ h hb hl hw
    dsimp only [BlksTold, Option.isSome, Option.getD, errV] at hW
    dsimp only [Done, errV]
    have HW := Lib.hid hW
    clear hW hw hy h hb
    go_enter Try.func16, Try.ntmps16
    go_wp2_with fail
    with_reducible refine HW.out.mono ?_
    rintro e w2 ⟨A', c', rfl, _, hb2⟩
    have HB2 := Lib.hid hb2
    clear hb2
    go_wp2
    go_ret
    exact ⟨rfl, HB2.out⟩
  | some l =>
    obtain ⟨h184, hmem⟩ := walkB_mem hw
    obtain ⟨z, hz⟩ : ∃ z, List.replicate 184 (0 : UInt8) ++ bs.drop 184 = z := ⟨_, rfl⟩
    have hzl : z.length = bs.length := by rw [← hz, List.length_append, List.length_replicate, List.length_drop]; omega
    obtain rfl : some (l.foldl rebF z) = y := by rw [← hy, ← hz]; unfold rebuildB; rw [hw]; rfl
    have hW := walkC w g base cap c A bs _ h hb hl hw
    dsimp only [BlksTold, Option.isSome, Option.getD, errV] at hW
    dsimp only [Done, errV]
    have HCL := Lib.hid (fun (W : World) (hB : Below w.heap.size w W) => lclear_yes (h.below hB) hb hl h184 z hz)
    have HW := Lib.hid hW
    have HMEM := Lib.hid hmem
    have HAR := Lib.hid h
    have HBASE := Lib.hid hb
    have HZL := Lib.hid hzl
    obtain ⟨B0, hB0⟩ : ∃ B0, w.heap.size = B0 := ⟨_, rfl⟩
    have HB0 := Lib.hid hB0
    clear hW hw hy h hb hz hmem hzl hB0
    go_enter Try.func16, Try.ntmps16
    go_wp2_with fail
    with_reducible refine HW.out.mono ?_
    rintro e w2 ⟨A2, c2, rfl, ho2, hb2⟩
    have hcl : l.length ≤ c2 ∧ c2 ≤ 9223372036854775807 := by
      rcases ho2.2 with ⟨h', h0⟩ | ⟨_, _, _, h', _, _, h1, h2, _⟩
      · injection h' with _ _ e; rw [h0, e]; omega
      · injection h' with _ _ e; unfold maxLen at h2; omega
    have HO2 := Lib.hid ho2
    have HB2 := Lib.hid hb2
    have HAR2 := Lib.hid (HAR.out.below hb2)
    have HCL2 := Lib.hid (HCL.out w2 hb2)
    clear hb2 ho2 HW HCL
    go_wp2_with fail
    refine HCL2.out.mono ?_
    rintro e w3 ⟨rfl, hbe⟩
    have HBE := Lib.hid hbe
    clear hbe HCL2
    go_wp2
    go_loopw [19] (fun t wr => ∃ j : Nat, t = .int .i64 (j : Int) ∧ j ≤ l.length ∧ Became 90 g base cap A ((l.take j).foldl rebF z) w2 wr) (fun t _ => l.length - (intOf t).toNat)
    case atStart => exact ⟨0, rfl, Nat.zero_le _, HBE.out⟩
    case round =>
      obtain ⟨j, rfl, hj, hbe⟩ := hrel
      by_cases hlt : j < l.length
      · obtain ⟨x, hx⟩ : ∃ x, l[j]? = some x := ⟨l[j], List.getElem?_eq_getElem hlt⟩
        obtain ⟨b, o, rfl, hbb, hc⟩ := own_bks HO2.out rfl (by omega)
        have hbB : B0 ≤ b := by have := (HO2.out.lt b rfl).1; have := HB0.out; omega
        have hnf : ¬ foot g A b := fun hf => by
          have h1 : b < w.heap.size := HAR.out.foot_lt hf
          have := HB0.out
          omega
        obtain ⟨p0, p1, p2⟩ := hc j x hx
        have hg := HMEM.out x (List.mem_of_getElem? hx)
        obtain ⟨_, _, _, q3, _⟩ := getB_some hg
        obtain ⟨out, hout⟩ : ∃ out, (l.take j).foldl rebF z = out := ⟨_, rfl⟩
        have hol : out.length = bs.length := by rw [← hout, rebs_len _ (by have := HZL.out; omega)]; exact HZL.out
        have hnext : (l.take (j + 1)).foldl rebF z = rebF out x := by
          rw [List.take_add_one, hx, List.foldl_append, hout]; rfl
        rw [hout] at hbe
        have htc : Tch (foot g A) w2 wr := by obtain ⟨_, _, _, t, _⟩ := hbe; exact t
        have r0 := tch_cell htc p0 hbb hnf
        have r1 := tch_cell htc p1 hbb hnf
        have r2 := tch_cell htc p2 hbb hnf
        obtain ⟨xo, xs, xu⟩ := x
        dsimp only at p0 p1 p2 q3 r0 r1 r2
        have hq := (isSz_iff _).1 (getB_some hg).2.2.2.2.1
        dsimp only at hq
        obtain ⟨w4, hw4⟩ : ∃ w4, wr.alloc (.cells #[.int .i64 (xo : Int), .int .i64 (xs : Int), .bool xu] 44) = w4 := ⟨_, rfl⟩
        have hb4 : Below wr.heap.size wr w4 := by rw [← hw4]; exact (Below.refl _ _).alloc (Nat.le_refl _) _
        have n4 : w4.heap[wr.heap.size]? = some (.cells #[.int .i64 (xo : Int), .int .i64 (xs : Int), .bool xu] 44 (0, 0)) := by rw [← hw4]; exact heap_alloc_new wr _
        obtain ⟨⟨d0, d1, d2⟩, _⟩ := blk_cells n4
        have HBE4 := Lib.hid (became_below hbe hb4)
        have HW4 := Lib.hid hw4
        have HP := Lib.hid (became_put HBE4.out HBASE.out (by rw [hol]; exact hl) (xo : Int) (by omega))
        cases xu with
        | true =>
          have HN : Hid ((l.take (j + 1)).foldl rebF z = out) := hnext
          clear hnext hx hc hbe hout htc hg p0 p1 p2 hb4 n4 HP hw4 HAR HAR2
          go_wp2_with (first | (rw [HW4.out]) | fail)
          go_roundw
          case rel => exact ⟨j + 1, by go_num, by omega, by rw [HN.out]; exact HBE4.out⟩
          case measure => simp only [intOf]; omega
        | false =>
          have HN : Hid ((l.take (j + 1)).foldl rebF z = (putB out (xo : Int)).getD out) := hnext
          clear hnext hx hc hbe hout htc hg p0 p1 p2 hb4 n4 hw4 HAR HAR2
          go_wp2_with (first | (rw [HW4.out]) | fail)
          refine HP.out.mono ?_
          rintro e w5 ⟨⟨v, rfl⟩, hbe5⟩
          have HBE5 := Lib.hid hbe5
          clear hbe5 HP
          go_wp2
          go_roundw
          case rel => exact ⟨j + 1, by go_num, by omega, by rw [HN.out]; exact HBE5.out⟩
          case measure => simp only [intOf]; omega
      · obtain hjl : j = l.length := by omega
        rw [hjl, List.take_length] at hbe
        have HF := Lib.hid (hbe.after HB2.out)
        clear hbe hjl
        go_wp2
        go_ret
        exact ⟨rfl, HF.out⟩
end Go.Proofs.Ytcjjpffkmajehaa

/- Layer 10's laws: the head (the document's example). -/
namespace Go.Proofs.Ytcjjpffkmajehaa
open Go.RowKit

theorem up10_bytes : ∃ z o1 o2 : List UInt8, List.replicate 280 (0 : UInt8) = z ∧ z.length = 280 ∧ o1.length = 280 ∧ o2.length = 280 ∧ findV z 32 = .tuple #[.int .i64 0, .nilIface] ∧ setB z 184 96 false = some o1 ∧ rebuildB o1 = some o2 ∧ findV o2 48 = .tuple #[.int .i64 184, .nilIface] := by
  have hzl : (List.replicate 280 (0 : UInt8)).length = 280 := List.length_replicate
  have hz0 : ∀ p, p + 8 ≤ 184 → p % 8 = 0 → wordN (List.replicate 280 (0 : UInt8)) p = 0 := fun p hp _ => by
    have := wordN_zeros [] 280 p (by omega)
    rwa [List.append_nil] at this
  generalize List.replicate 280 (0 : UInt8) = z at *
  have h0 : Lists z [] (fun _ => []) := lists_none (by omega) (by omega) ⟨fun x hx => (by cases hx), fun x hx => (by cases hx)⟩ hz0
  have hs := setB_of z ⟨184, 96, false⟩ (by decide) (by decide) (by rw [hzl]; decide) (by decide)
  have hg := setT_at (bs := z) (x := ⟨184, 96, false⟩) (by decide) (by decide) (by rw [hzl]; decide) (by decide)
  have hl := setT_length (bs := z) (x := ⟨184, 96, false⟩) (by decide) (by rw [hzl]; decide)
  rw [hzl] at hl
  generalize setT z ⟨184, 96, false⟩ = o1 at *
  have hw : walkB o1 = some [⟨184, 96, false⟩] := walkB_tile (by rw [hl]; exact ⟨rfl, by decide, rfl⟩) (fun x hx => by rw [List.mem_singleton] at hx; subst hx; exact hg)
  obtain ⟨o2, hr, hL, hl2, _⟩ := rebuildB_lists hw (by omega)
  refine ⟨z, o1, o2, rfl, hzl, hl, hl2.trans hl, ?_, hs, hr, ?_⟩
  · obtain ⟨o, e, hh⟩ := findF_spec h0 (fun c _ => Nat.zero_le _) 32 22 0 (by omega)
    have e0 : o = 0 := by
      rcases hh with ⟨h, _⟩ | ⟨d, _, _, h, _⟩
      · exact h
      · cases h
    have c0 : classI 32 = 0 := by decide
    have ef : findB z 32 = some 0 := by
      unfold findB
      rw [c0]
      rw [e0] at e
      exact e
    unfold findV
    rw [if_pos (by decide), ef]
    rfl
  · obtain ⟨o, e, hh⟩ := findF_spec hL (fun c _ => by unfold freeL; rw [List.length_map]; exact Nat.le_trans (List.length_filter_le _ _) (by simp)) 48 21 1 (by omega)
    have hsz : szB o2 184 = 96 := szB_of (x := ⟨184, 96, false⟩) (hL.st.at_ ⟨184, 96, false⟩ (by simp))
    have e0 : o = 184 := by
      rcases hh with ⟨_, h⟩ | ⟨d, _, _, h, _⟩
      · have := h 4 (by omega) (by omega) 184 (mem_freeL (x := ⟨184, 96, false⟩) (by simp) rfl (by decide))
        rw [hsz] at this
        exact absurd this (by decide)
      · obtain ⟨x, hx, hx2, _⟩ := freeL_mem h
        rw [List.mem_singleton] at hx
        subst hx
        exact hx2.symm
    have c0 : classI 48 = 1 := by decide
    have ef : findB o2 48 = some 184 := by
      unfold findB
      rw [c0]
      rw [e0] at e
      exact e
    unfold findV
    rw [if_pos (by decide), ef]
    rfl

end Go.Proofs.Ytcjjpffkmajehaa

/- The walk of FitAll. -/
namespace Go.Proofs.Ytcjjpffkmajehaa
open Go.RowKit

theorem freeL_drop (l : List Bk) (c r : Nat) (x : Bk) (h : l[r]? = some x) : ((l.drop r).reverse.filter fun x => !x.used && classI (x.size : Int) == (c : Int)).map Bk.off = ((l.drop (r + 1)).reverse.filter fun x => !x.used && classI (x.size : Int) == (c : Int)).map Bk.off ++ (if x.used = false ∧ classI (x.size : Int) = (c : Int) then [x.off] else []) := by
  obtain ⟨h1, rfl⟩ := List.getElem?_eq_some_iff.1 h
  rw [List.drop_eq_getElem_cons h1, List.reverse_cons, List.filter_append, List.map_append]
  congr 1
  by_cases hc : l[r].used = false ∧ classI (l[r].size : Int) = (c : Int)
  · rw [if_pos hc]; simp [hc.1, hc.2]
  · rw [if_neg hc]
    have : (!l[r].used && classI (l[r].size : Int) == (c : Int)) = false := by
      rw [Bool.eq_false_iff]
      intro h'
      apply hc
      simpa using h'
    simp [this]
theorem szB_in {bs : List UInt8} {l : List Bk} {L : Nat → List Nat} (h : Lists bs l L) {x : Bk} (hx : x ∈ l) : szB bs x.off = x.size := szB_of (h.st.at_ x hx)
/-- What Find tells behind Rebuild: found is one of the free blocks that hold so many; none, if there is none. -/
theorem fit_found {bs : List UInt8} {l : List Bk} (h : Lists bs l (freeL l)) (hl : l.length ≤ 40) (s : Int) (hs : isSz s = true) : ∃ o : Nat, findV bs s = .tuple #[.int .i64 (o : Int), .nilIface] ∧ o ≤ 20000 ∧
    ((o : Int) == 0 || l.any fun x => x.off == o && !x.used && decide (s ≤ (x.size : Int))) = true ∧ (l.any fun x => !x.used && decide (s ≤ (x.size : Int))) = !(((o : Int) == 0)) := by
  have hc1 := classI_bounds s
  have hc2 : ¬ classI s < 0 := by rw [classI_neg]; simp [hs]
  have hfl : ∀ c, c < 22 → (freeL l c).length ≤ 1024 := fun c _ => Nat.le_trans (freeL_len l c) (by omega)
  obtain ⟨o, e, hh⟩ := findF_spec h hfl s (22 - (classI s).toNat) (classI s).toNat (by omega)
  have ev : findV bs s = .tuple #[.int .i64 (o : Int), .nilIface] := by
    unfold findV findB
    rw [if_pos hs, e]
    rfl
  rcases hh with ⟨h0, hn⟩ | ⟨d, _, h2, h3, h4⟩
  · subst h0
    refine ⟨0, ev, by omega, by simp, ?_⟩
    rw [show (((0 : Nat) : Int) == 0) = true from rfl, Bool.not_true, List.any_eq_false]
    intro x hx hh
    have hh : x.used = false ∧ s ≤ (x.size : Int) := by simpa using hh
    have hf := h.st.facts hx
    obtain ⟨cx, hcx, hcx2⟩ := class_nat hf.2.2.2.2.2
    have hm := classI_mono hs hf.2.2.2.2.2 hh.2
    have := hn cx (by omega) hcx2 x.off (mem_freeL hx hh.1 hcx)
    rw [szB_in h hx] at this
    omega
  · obtain ⟨x, hx, rfl, hu, _⟩ := freeL_mem h3
    rw [szB_in h hx] at h4
    have hf := h.st.facts hx
    have hsm := h.small
    have hz : (((x.off : Nat) : Int) == 0) = false := by rw [beq_eq_false_iff_ne]; omega
    refine ⟨x.off, ev, by omega, ?_, ?_⟩
    · rw [hz, Bool.false_or, List.any_eq_true]
      exact ⟨x, hx, by simp [hu, h4]⟩
    · rw [hz, Bool.not_false, List.any_eq_true]
      exact ⟨x, hx, by simp [hu, h4]⟩

end Go.Proofs.Ytcjjpffkmajehaa
