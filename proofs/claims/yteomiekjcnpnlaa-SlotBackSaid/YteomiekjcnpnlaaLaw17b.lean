/- Layer 17's laws: the walk of SlotBack (genlaw17b.py). -/
import Derived.Test.YteomiekjcnpnlaaLaw17a
import Derived.Laws.BitsAllLaws
namespace Go.Proofs.Yteomiekjcnpnlaa
open Go.RowKit

/-- P, of which up to j bytes from pk on are turned by those of b0. -/
def SlTurn (P : List UInt8) (pk b0 j x : Nat) (bs : List UInt8) : Prop :=
  bs.length = P.length ∧ (∀ i, i < pk ∨ pk + 4 ≤ i → bs[i]? = P[i]?) ∧ x = b0 / 256 ^ j ∧ (∀ i, pk + j ≤ i → bs[i]? = P[i]?) ∧ (bs = P → b0 % 256 ^ j = 0)
theorem SlTurn.start (P : List UInt8) (pk b0 : Nat) : SlTurn P pk b0 0 b0 P :=
  ⟨rfl, fun _ _ => rfl, by simp, fun _ _ => rfl, fun _ => by rw [Nat.pow_zero, Nat.mod_one]⟩
theorem SlTurn.step {P bs : List UInt8} {pk b0 j x : Nat} {u tb : UInt8} (h : SlTurn P pk b0 j x bs) (hj : j < 4) (hu : bs[pk + j]? = some u) (htb : tb.toNat = x % 256) : SlTurn P pk b0 (j + 1) (x / 256) (bs.set (pk + j) (u ^^^ tb)) := by
  obtain ⟨h1, h2, h3, h4, h5⟩ := h
  refine ⟨by rw [List.length_set]; exact h1, fun i hi => ?_, ?_, fun i hi => ?_, fun he => ?_⟩
  · rw [List.getElem?_set_ne (by omega)]
    exact h2 i hi
  · rw [h3, Nat.pow_succ, Nat.div_div_eq_div_mul]
  · rw [List.getElem?_set_ne (by omega)]
    exact h4 i (by omega)
  · have hlt : pk + j < bs.length := by
      rcases Nat.lt_or_ge (pk + j) bs.length with k | k
      · exact k
      · rw [List.getElem?_eq_none k] at hu; cases hu
    have hz : P[pk + j]? = some (u ^^^ tb) := by rw [← he, List.getElem?_set_self hlt]
    have hp := (h4 (pk + j) (Nat.le_refl _)).symm.trans hu
    rw [hp] at hz
    injection hz with hz
    have hz2 : u.toNat ^^^ tb.toNat = u.toNat ^^^ 0 := by rw [← UInt8.toNat_xor, ← hz, Nat.xor_zero]
    have ht0 := xor_left_one hz2
    have hbs : bs = P := by
      apply List.ext_getElem?
      intro i
      by_cases hi : i = pk + j
      · subst hi; rw [hu, hp]
      · have k := congrArg (fun l : List UInt8 => l[i]?) he
        rw [List.getElem?_set_ne (fun e => hi e.symm)] at k
        exact k
    have hm : b0 / 256 ^ j % 256 = 0 := by rw [← h3, ← htb]; exact ht0
    rw [Nat.pow_succ, Nat.mod_mul, h5 hbs, hm, Nat.mul_zero]
theorem SlTurn.ends {P bs : List UInt8} {pk b0 x : Nat} (h : SlTurn P pk b0 4 x bs) (hb : b0 < 4294967296) (h0 : b0 ≠ 0) : bs ≠ P := fun e => by
  have := h.2.2.2.2 e
  rw [Nat.mod_eq_of_lt (show b0 < 256 ^ 4 by omega)] at this
  exact h0 this
/-- Bytes of a record, turned: none's. -/
theorem slTurn_none {g n s pk b0 x : Nat} {bs : List UInt8} (h : SlTurn (slPut g n s) pk b0 4 x bs) (hb : b0 < 4294967296) (h0 : b0 ≠ 0) (hk : pk + 4 ≤ 512) : slRec bs = false := by
  have hne := h.ends hb h0
  cases hr : slRec bs with
  | false => rfl
  | true =>
    exfalso
    obtain ⟨P, hP⟩ : ∃ P, slPut g n s = P := ⟨_, rfl⟩
    rw [hP] at h hne
    have hPl : P.length = 512 := by rw [← hP]; exact slPut_len _ _ _
    unfold slRec at hr
    rw [Bool.and_eq_true] at hr
    have ho := of_decide_eq_true hr.2
    have hbl := of_decide_eq_true hr.1
    unfold slOf at ho
    by_cases hk2 : slOk (slG bs) (slN bs) = true
    · rw [if_pos hk2] at ho
      have parts : ∀ l : List UInt8, l = l.take pk ++ (l.drop pk).take 4 ++ l.drop (pk + 4) := fun l => by
        rw [List.append_assoc, ← List.drop_drop, List.take_append_drop, List.take_append_drop]
      have e1 : bs.take pk = P.take pk := by
        apply List.ext_getElem?
        intro i
        rw [List.getElem?_take, List.getElem?_take]
        by_cases hi : i < pk
        · rw [if_pos hi, if_pos hi, h.2.1 i (.inl hi)]
        · rw [if_neg hi, if_neg hi]
      have e2 : bs.drop (pk + 4) = P.drop (pk + 4) := by
        apply List.ext_getElem?
        intro i
        rw [List.getElem?_drop, List.getElem?_drop, h.2.1 _ (.inr (by omega))]
      have p1 := parts P
      have p2 := parts bs
      rw [e1, e2] at p2
      have hq : ((P.drop pk).take 4).length = 4 := by rw [List.length_take, List.length_drop]; omega
      have hq' : ((bs.drop pk).take 4).length = 4 := by rw [List.length_take, List.length_drop]; omega
      have e3 := slPut_turned hq hq' (hP.trans p1) (ho.trans p2)
      rw [e3] at p2
      exact hne (p2.trans p1.symm)
    · rw [if_neg hk2] at ho
      rw [← ho] at hbl
      cases hbl
theorem sl_xor8 (x y : UInt8) : bits .xor .u8 (x.toNat : Int) (y.toNat : Int) = ((x ^^^ y).toNat : Int) := by
  rw [u8_xor_nat _ _ x.toNat_lt y.toNat_lt, UInt8.toNat_xor]
theorem slRec_of {b : List UInt8} (h : slRec b = true) : slOf (slG b) (slN b) (slS b) = b ∧ slAt b (slG b) = slG b ∧ slAt b (slN b) = slN b ∧ slAt b (slS b) = slS b := by
  unfold slAt
  rw [if_pos h, if_pos h, if_pos h]
  unfold slRec at h
  rw [Bool.and_eq_true] at h
  exact ⟨of_decide_eq_true h.2, rfl, rfl, rfl⟩
theorem slS_lt (b : List UInt8) : slS b < 4294967296 := by
  have h := numB_lt ((b.drop 24).take 4)
  have e : ((b.drop 24).take 4).length ≤ 4 := by rw [List.length_take]; omega
  have : (256 : Nat) ^ ((b.drop 24).take 4).length ≤ 256 ^ 4 := Nat.pow_le_pow_right (by omega) e
  unfold slS
  omega
set_option maxRecDepth 100000 in
set_option maxHeartbeats 8000000 in
theorem sb_guard (w : World) (g n s : Nat) (_hg : g < 18446744073709551616) (_hn : n < 18446744073709551616) (_hs : s < 4294967296) (A : Option Addr) (c : Nat) (b : List UInt8) (_hr : Rd w w.heap.size A b.length b) (_hnc : b.length ≤ c) (at_ : Int) (_hat : -9223372036854775808 ≤ at_ ∧ at_ ≤ 9223372036854775807) (v : Nat) (_hv : v < 4294967296) (h : 2000 < b.length ∨ at_ < 0 ∨ 508 < at_) :
    Calls Try.prog 4 #[.int .u64 (g : Int), .int .u64 (n : Int), .int .u32 (s : Int), .slice A b.length c, .int .i64 at_, .int .u32 (v : Int)] w fun e w' => e = .returned (.bool true) ∧ Below w.heap.size w w' := by
  have HUP := Lib.hid (up17_any w)
  obtain ⟨m, hm⟩ : ∃ m, b.length = m := ⟨_, rfl⟩
  rw [hm] at h ⊢
  by_cases h1 : 2000 < m
  · have g1 : decide (2000 < m) = true := decide_eq_true h1
    have g1' : decide ((2000 : Int) < (m : Int)) = true := decide_eq_true (by omega)
    clear _hr _hnc hm
    go_enter Try.func4, Try.ntmps4
    go_wp2_with fail
    refine HUP.out.mono ?_
    rintro e w1 ⟨rfl, hb1⟩
    have HB := Lib.hid hb1
    clear hb1 HUP
    go_wp2_with fail
    go_ret
    exact ⟨rfl, HB.out⟩
  have g1 : decide (2000 < m) = false := decide_eq_false h1
  have g1' : decide ((2000 : Int) < (m : Int)) = false := decide_eq_false (by omega)
  by_cases h2 : at_ < 0
  · have g2 : decide (at_ < 0) = true := decide_eq_true h2
    clear _hr _hnc hm
    go_enter Try.func4, Try.ntmps4
    go_wp2_with fail
    refine HUP.out.mono ?_
    rintro e w1 ⟨rfl, hb1⟩
    have HB := Lib.hid hb1
    clear hb1 HUP
    go_wp2_with fail
    go_ret
    exact ⟨rfl, HB.out⟩
  have g2 : decide (at_ < 0) = false := decide_eq_false h2
  · have g3 : decide ((508 : Int) < at_) = true := decide_eq_true (by omega)
    clear _hr _hnc hm
    go_enter Try.func4, Try.ntmps4
    go_wp2_with fail
    refine HUP.out.mono ?_
    rintro e w1 ⟨rfl, hb1⟩
    have HB := Lib.hid hb1
    clear hb1 HUP
    go_wp2_with fail
    go_ret
    exact ⟨rfl, HB.out⟩
set_option maxRecDepth 100000 in
set_option maxHeartbeats 8000000 in
theorem sb_nn (w : World) (g n s : Nat) (_hg : g < 18446744073709551616) (_hn : n < 18446744073709551616) (_hs : s < 4294967296) (A : Option Addr) (c : Nat) (b : List UInt8) (hr : Rd w w.heap.size A b.length b) (hnc : b.length ≤ c) (at_ : Int) (hat : -9223372036854775808 ≤ at_ ∧ at_ ≤ 9223372036854775807) (v : Nat) (_hv : v < 4294967296) (hl : b.length ≤ 2000) (h0 : 0 ≤ at_) (h508 : at_ ≤ 508) (hy : slRec b = false) (hok : slOk g n = false) :
    Calls Try.prog 4 #[.int .u64 (g : Int), .int .u64 (n : Int), .int .u32 (s : Int), .slice A b.length c, .int .i64 at_, .int .u32 (v : Int)] w fun e w' => e = .returned (.bool true) ∧ Below w.heap.size w w' := by
  have HUP := Lib.hid (up17_any w)
  obtain ⟨pk, rfl⟩ : ∃ pk : Nat, at_ = (pk : Int) := ⟨at_.toNat, by omega⟩
  have hpk : pk ≤ 508 := by omega
  have HG := Lib.hid (fun W (h : Below w.heap.size w W) => slget_any W A b.length c b ((hr.below h).more h.size) hnc)
  have HRB := Lib.hid hr
  obtain ⟨G, hG⟩ : ∃ G, slAt b (slG b) = G := ⟨_, rfl⟩
  obtain ⟨N, hN⟩ : ∃ N, slAt b (slN b) = N := ⟨_, rfl⟩
  obtain ⟨S, hS⟩ : ∃ S, slAt b (slS b) = S := ⟨_, rfl⟩
  rw [hy, hG, hN, hS] at HG
  have HPUT := Lib.hid (fun V => slput_no V g n s hok)
  obtain ⟨m, hm⟩ : ∃ m, b.length = m := ⟨_, rfl⟩
  rw [hm] at HG hl HRB
  rw [hm]
  have g1 : decide (2000 < m) = false := decide_eq_false (by omega)
  have g1' : decide ((2000 : Int) < (m : Int)) = false := decide_eq_false (by omega)
  have g2 : decide ((pk : Int) < 0) = false := decide_eq_false (by omega)
  have g3 : decide ((508 : Int) < (pk : Int)) = false := decide_eq_false (by omega)
  clear hr hnc hm hG hN hS hy hok _hg _hn _hs hl h0 h508 hat _hv
  go_enter Try.func4, Try.ntmps4
  go_wp2_with fail
  refine HUP.out.mono ?_
  rintro e w1 ⟨rfl, hb1⟩
  have HB := Lib.hid hb1
  clear hb1 HUP
  go_wp2_with fail
  refine (HG.out w1 HB.out).mono ?_
  rintro e w2 ⟨rfl, hb2⟩
  obtain ⟨w3a, hww3a⟩ : ∃ x, w2.alloc (.cells #[.int .u64 0, .int .u64 0, .int .u32 0] 27) = x := ⟨_, rfl⟩
  have hbw3a : Below w2.heap.size w2 w3a := by rw [← hww3a]; exact (Below.refl _ _).alloc (Nat.le_refl _) _
  have nw3a : w3a.heap[w2.heap.size]? = some (.cells #[.int .u64 0, .int .u64 0, .int .u32 0] 27 (0, 0)) := by rw [← hww3a]; exact heap_alloc_new w2 _
  obtain ⟨w3, hww3⟩ : ∃ x, (((w3a.setCell ⟨w2.heap.size, 0, none⟩ (.int .u64 (G : Int))).setCell ⟨w2.heap.size, 1, none⟩ (.int .u64 (N : Int))).setCell ⟨w2.heap.size, 2, none⟩ (.int .u32 (S : Int))) = x := ⟨_, rfl⟩
  have nw3 : w3.heap[w2.heap.size]? = some (.cells #[.int .u64 (G : Int), .int .u64 (N : Int), .int .u32 (S : Int)] 27 (0, 0)) := by rw [← hww3]; exact im_set nw3a _ _ _
  have hbw3 : Below w2.heap.size w2 w3 := by rw [← hww3]; exact ((hbw3a.setCell (p := ⟨w2.heap.size, 0, none⟩) (Nat.le_refl _) _).setCell (p := ⟨w2.heap.size, 1, none⟩) (Nat.le_refl _) _).setCell (p := ⟨w2.heap.size, 2, none⟩) (Nat.le_refl _) _
  obtain ⟨z0, z1, z2⟩ := rk_cells nw3a
  obtain ⟨f0, f1, f2⟩ := im_thaw nw3a
  have hlz := heap_lt1 nw3a
  have HNw3 := Lib.hid nw3
  have HWw3a := Lib.hid hww3a
  have HWw3 := Lib.hid hww3
  have HB3 := Lib.hid (HB.out.trans ((hb2.trans (hbw3.mono hb2.size)).mono HB.out.size))
  clear hb2
  clear hww3a hbw3a nw3a hww3 nw3 hbw3
  go_wp2_with (first | (rw [HWw3a.out]) | (rw [HWw3.out]) | fail)
  go_quiet (fail)
  clear z0 z1 z2 f0 f1 f2 hlz
  obtain ⟨w6, hw6⟩ : ∃ w6, w3.drewN nq = w6 := ⟨_, rfl⟩
  have HB6 := Lib.hid (show Below w.heap.size w w6 by rw [← hw6]; exact HB3.out.trans ((below_dN _ _).mono HB3.out.size))
  rw [hw6]
  clear hw6
  obtain ⟨x3a, hwx3a⟩ : ∃ x, w6.alloc (.cells #[.int .u64 0, .int .u64 0, .int .u32 0] 27) = x := ⟨_, rfl⟩
  have hbx3a : Below w6.heap.size w6 x3a := by rw [← hwx3a]; exact (Below.refl _ _).alloc (Nat.le_refl _) _
  have nx3a : x3a.heap[w6.heap.size]? = some (.cells #[.int .u64 0, .int .u64 0, .int .u32 0] 27 (0, 0)) := by rw [← hwx3a]; exact heap_alloc_new w6 _
  obtain ⟨x3, hwx3⟩ : ∃ x, (((x3a.setCell ⟨w6.heap.size, 0, none⟩ (.int .u64 (g : Int))).setCell ⟨w6.heap.size, 1, none⟩ (.int .u64 (n : Int))).setCell ⟨w6.heap.size, 2, none⟩ (.int .u32 (s : Int))) = x := ⟨_, rfl⟩
  have nx3 : x3.heap[w6.heap.size]? = some (.cells #[.int .u64 (g : Int), .int .u64 (n : Int), .int .u32 (s : Int)] 27 (0, 0)) := by rw [← hwx3]; exact im_set nx3a _ _ _
  have hbx3 : Below w6.heap.size w6 x3 := by rw [← hwx3]; exact ((hbx3a.setCell (p := ⟨w6.heap.size, 0, none⟩) (Nat.le_refl _) _).setCell (p := ⟨w6.heap.size, 1, none⟩) (Nat.le_refl _) _).setCell (p := ⟨w6.heap.size, 2, none⟩) (Nat.le_refl _) _
  obtain ⟨z0, z1, z2⟩ := rk_cells nx3a
  obtain ⟨f0, f1, f2⟩ := im_thaw nx3a
  have hlz := heap_lt1 nx3a
  have HNx3 := Lib.hid nx3
  have HWx3a := Lib.hid hwx3a
  have HWx3 := Lib.hid hwx3
  have HBX := Lib.hid (HB6.out.trans (hbx3.mono HB6.out.size))
  clear hwx3a hbx3a nx3a hwx3 nx3 hbx3
  obtain ⟨c0, c1, c2⟩ := rk_cells HNx3.out
  have hlx := heap_lt1 HNx3.out
  go_wp2_with (first | (rw [HWx3a.out]) | (rw [HWx3.out]) | fail)
  clear z0 z1 z2 f0 f1 f2 hlz c0 c1 c2 hlx
  refine (HPUT.out x3).mono ?_
  rintro e w7 ⟨rfl, hb7⟩
  have HF := Lib.hid (HBX.out.trans (hb7.mono HBX.out.size))
  clear hb7
  go_wp2_with fail
  go_ret
  exact ⟨rfl, HF.out⟩
set_option maxRecDepth 100000 in
set_option maxHeartbeats 8000000 in
theorem sb_n0 (w : World) (g n s : Nat) (_hg : g < 18446744073709551616) (_hn : n < 18446744073709551616) (hs : s < 4294967296) (A : Option Addr) (c : Nat) (b : List UInt8) (hr : Rd w w.heap.size A b.length b) (hnc : b.length ≤ c) (at_ : Int) (hat : -9223372036854775808 ≤ at_ ∧ at_ ≤ 9223372036854775807) (v : Nat) (hv : v < 4294967296) (hl : b.length ≤ 2000) (h0 : 0 ≤ at_) (h508 : at_ ≤ 508) (hy : slRec b = false) (hok : slOk g n = true) (hv0 : v = 0) :
    Calls Try.prog 4 #[.int .u64 (g : Int), .int .u64 (n : Int), .int .u32 (s : Int), .slice A b.length c, .int .i64 at_, .int .u32 (v : Int)] w fun e w' => e = .returned (.bool true) ∧ Below w.heap.size w w' := by
  have HUP := Lib.hid (up17_any w)
  obtain ⟨pk, rfl⟩ : ∃ pk : Nat, at_ = (pk : Int) := ⟨at_.toNat, by omega⟩
  have hpk : pk ≤ 508 := by omega
  have HG := Lib.hid (fun W (h : Below w.heap.size w W) => slget_any W A b.length c b ((hr.below h).more h.size) hnc)
  have HRB := Lib.hid hr
  obtain ⟨G, hG⟩ : ∃ G, slAt b (slG b) = G := ⟨_, rfl⟩
  obtain ⟨N, hN⟩ : ∃ N, slAt b (slN b) = N := ⟨_, rfl⟩
  obtain ⟨S, hS⟩ : ∃ S, slAt b (slS b) = S := ⟨_, rfl⟩
  rw [hy, hG, hN, hS] at HG
  have HPUT := Lib.hid (fun V => slput_ok V g n s hs hok)
  obtain ⟨p1, p2, p3, p4⟩ := slRec_put hok hs
  obtain ⟨P, hP⟩ : ∃ P, slPut g n s = P := ⟨_, rfl⟩
  have HPL : Hid (P.length = 512) := (show _ = _ by rw [← hP]; exact slPut_len g n s)
  have HGP := Lib.hid (fun W A n c hr hnc => slget_any W A n c P hr hnc)
  rw [hP] at p1 p2 p3 p4 HPUT
  rw [p1, p2, p3, p4] at HGP
  clear p1 p2 p3 p4 hP
  subst hv0
  obtain ⟨m, hm⟩ : ∃ m, b.length = m := ⟨_, rfl⟩
  rw [hm] at HG hl HRB
  rw [hm]
  have g1 : decide (2000 < m) = false := decide_eq_false (by omega)
  have g1' : decide ((2000 : Int) < (m : Int)) = false := decide_eq_false (by omega)
  have g2 : decide ((pk : Int) < 0) = false := decide_eq_false (by omega)
  have g3 : decide ((508 : Int) < (pk : Int)) = false := decide_eq_false (by omega)
  clear hr hnc hm hG hN hS hy hok _hg _hn hs hl h0 h508 hat
  go_enter Try.func4, Try.ntmps4
  go_wp2_with fail
  refine HUP.out.mono ?_
  rintro e w1 ⟨rfl, hb1⟩
  have HB := Lib.hid hb1
  clear hb1 HUP
  go_wp2_with fail
  refine (HG.out w1 HB.out).mono ?_
  rintro e w2 ⟨rfl, hb2⟩
  obtain ⟨w3a, hww3a⟩ : ∃ x, w2.alloc (.cells #[.int .u64 0, .int .u64 0, .int .u32 0] 27) = x := ⟨_, rfl⟩
  have hbw3a : Below w2.heap.size w2 w3a := by rw [← hww3a]; exact (Below.refl _ _).alloc (Nat.le_refl _) _
  have nw3a : w3a.heap[w2.heap.size]? = some (.cells #[.int .u64 0, .int .u64 0, .int .u32 0] 27 (0, 0)) := by rw [← hww3a]; exact heap_alloc_new w2 _
  obtain ⟨w3, hww3⟩ : ∃ x, (((w3a.setCell ⟨w2.heap.size, 0, none⟩ (.int .u64 (G : Int))).setCell ⟨w2.heap.size, 1, none⟩ (.int .u64 (N : Int))).setCell ⟨w2.heap.size, 2, none⟩ (.int .u32 (S : Int))) = x := ⟨_, rfl⟩
  have nw3 : w3.heap[w2.heap.size]? = some (.cells #[.int .u64 (G : Int), .int .u64 (N : Int), .int .u32 (S : Int)] 27 (0, 0)) := by rw [← hww3]; exact im_set nw3a _ _ _
  have hbw3 : Below w2.heap.size w2 w3 := by rw [← hww3]; exact ((hbw3a.setCell (p := ⟨w2.heap.size, 0, none⟩) (Nat.le_refl _) _).setCell (p := ⟨w2.heap.size, 1, none⟩) (Nat.le_refl _) _).setCell (p := ⟨w2.heap.size, 2, none⟩) (Nat.le_refl _) _
  obtain ⟨z0, z1, z2⟩ := rk_cells nw3a
  obtain ⟨f0, f1, f2⟩ := im_thaw nw3a
  have hlz := heap_lt1 nw3a
  have HNw3 := Lib.hid nw3
  have HWw3a := Lib.hid hww3a
  have HWw3 := Lib.hid hww3
  have HB3 := Lib.hid (HB.out.trans ((hb2.trans (hbw3.mono hb2.size)).mono HB.out.size))
  clear hb2
  clear hww3a hbw3a nw3a hww3 nw3 hbw3
  go_wp2_with (first | (rw [HWw3a.out]) | (rw [HWw3.out]) | fail)
  go_quiet (fail)
  clear z0 z1 z2 f0 f1 f2 hlz
  obtain ⟨w6, hw6⟩ : ∃ w6, w3.drewN nq = w6 := ⟨_, rfl⟩
  have HB6 := Lib.hid (show Below w.heap.size w w6 by rw [← hw6]; exact HB3.out.trans ((below_dN _ _).mono HB3.out.size))
  rw [hw6]
  clear hw6
  obtain ⟨x3a, hwx3a⟩ : ∃ x, w6.alloc (.cells #[.int .u64 0, .int .u64 0, .int .u32 0] 27) = x := ⟨_, rfl⟩
  have hbx3a : Below w6.heap.size w6 x3a := by rw [← hwx3a]; exact (Below.refl _ _).alloc (Nat.le_refl _) _
  have nx3a : x3a.heap[w6.heap.size]? = some (.cells #[.int .u64 0, .int .u64 0, .int .u32 0] 27 (0, 0)) := by rw [← hwx3a]; exact heap_alloc_new w6 _
  obtain ⟨x3, hwx3⟩ : ∃ x, (((x3a.setCell ⟨w6.heap.size, 0, none⟩ (.int .u64 (g : Int))).setCell ⟨w6.heap.size, 1, none⟩ (.int .u64 (n : Int))).setCell ⟨w6.heap.size, 2, none⟩ (.int .u32 (s : Int))) = x := ⟨_, rfl⟩
  have nx3 : x3.heap[w6.heap.size]? = some (.cells #[.int .u64 (g : Int), .int .u64 (n : Int), .int .u32 (s : Int)] 27 (0, 0)) := by rw [← hwx3]; exact im_set nx3a _ _ _
  have hbx3 : Below w6.heap.size w6 x3 := by rw [← hwx3]; exact ((hbx3a.setCell (p := ⟨w6.heap.size, 0, none⟩) (Nat.le_refl _) _).setCell (p := ⟨w6.heap.size, 1, none⟩) (Nat.le_refl _) _).setCell (p := ⟨w6.heap.size, 2, none⟩) (Nat.le_refl _) _
  obtain ⟨z0, z1, z2⟩ := rk_cells nx3a
  obtain ⟨f0, f1, f2⟩ := im_thaw nx3a
  have hlz := heap_lt1 nx3a
  have HNx3 := Lib.hid nx3
  have HWx3a := Lib.hid hwx3a
  have HWx3 := Lib.hid hwx3
  have HBX := Lib.hid (HB6.out.trans (hbx3.mono HB6.out.size))
  clear hwx3a hbx3a nx3a hwx3 nx3 hbx3
  obtain ⟨c0, c1, c2⟩ := rk_cells HNx3.out
  have hlx := heap_lt1 HNx3.out
  go_wp2_with (first | (rw [HWx3a.out]) | (rw [HWx3.out]) | fail)
  clear z0 z1 z2 f0 f1 f2 hlz c0 c1 c2 hlx
  refine (HPUT.out x3).mono ?_
  rintro e w7 ⟨p, rfl, hpx, hf7, hb7⟩
  have hr7 := hf7.reads
  rw [HPL.out] at hr7
  have HR7 := Lib.hid hr7
  have HB7 := Lib.hid (HBX.out.trans (hb7.mono HBX.out.size))
  have HN7 := Lib.hid ((hb7.block _ (heap_lt1 HNx3.out)).trans HNx3.out)
  have HF7 := Lib.hid hf7
  have hpw : w.heap.size ≤ p := Nat.le_trans HBX.out.size hpx
  clear hb7 hr7 hf7 hpx
  go_wp2_with fail
  refine (HGP.out w7 _ 512 512 HR7.out (Nat.le_refl _)).mono ?_
  rintro e w8 ⟨rfl, hb8⟩
  obtain ⟨y9a, hwy9a⟩ : ∃ x, w8.alloc (.cells #[.int .u64 0, .int .u64 0, .int .u32 0] 27) = x := ⟨_, rfl⟩
  have hby9a : Below w8.heap.size w8 y9a := by rw [← hwy9a]; exact (Below.refl _ _).alloc (Nat.le_refl _) _
  have ny9a : y9a.heap[w8.heap.size]? = some (.cells #[.int .u64 0, .int .u64 0, .int .u32 0] 27 (0, 0)) := by rw [← hwy9a]; exact heap_alloc_new w8 _
  obtain ⟨y9, hwy9⟩ : ∃ x, (((y9a.setCell ⟨w8.heap.size, 0, none⟩ (.int .u64 (g : Int))).setCell ⟨w8.heap.size, 1, none⟩ (.int .u64 (n : Int))).setCell ⟨w8.heap.size, 2, none⟩ (.int .u32 (s : Int))) = x := ⟨_, rfl⟩
  have ny9 : y9.heap[w8.heap.size]? = some (.cells #[.int .u64 (g : Int), .int .u64 (n : Int), .int .u32 (s : Int)] 27 (0, 0)) := by rw [← hwy9]; exact im_set ny9a _ _ _
  have hby9 : Below w8.heap.size w8 y9 := by rw [← hwy9]; exact ((hby9a.setCell (p := ⟨w8.heap.size, 0, none⟩) (Nat.le_refl _) _).setCell (p := ⟨w8.heap.size, 1, none⟩) (Nat.le_refl _) _).setCell (p := ⟨w8.heap.size, 2, none⟩) (Nat.le_refl _) _
  obtain ⟨z0, z1, z2⟩ := rk_cells ny9a
  obtain ⟨f0, f1, f2⟩ := im_thaw ny9a
  have hlz := heap_lt1 ny9a
  have HNy9 := Lib.hid ny9
  have HWy9a := Lib.hid hwy9a
  have HWy9 := Lib.hid hwy9
  have hb89 := hb8.trans (hby9.mono hb8.size)
  have HB9 := Lib.hid (HB7.out.trans (hb89.mono HB7.out.size))
  have n9 := (hb89.block _ (heap_lt1 HN7.out)).trans HN7.out
  have HF9 := Lib.hid (HF7.out.below hb89 HF7.out.lt)
  clear hb8 hb89
  clear hwy9a hby9a ny9a hwy9 ny9 hby9
  obtain ⟨c0, c1, c2⟩ := rk_cells n9
  obtain ⟨d0, d1, d2⟩ := rk_cells HNy9.out
  have hlx := heap_lt1 n9
  have hly := heap_lt1 HNy9.out
  have gg : ((g : Int) == (g : Int)) = true := beq_self_eq_true _
  have gn : ((n : Int) == (n : Int)) = true := beq_self_eq_true _
  have gs : ((s : Int) == (s : Int)) = true := beq_self_eq_true _
  go_wp2_with (first | (rw [HWy9a.out]) | (rw [HWy9.out]) | fail)
  go_ret
  exact ⟨rfl, HB9.out⟩
set_option maxRecDepth 100000 in
set_option maxHeartbeats 8000000 in
theorem sb_nt (w : World) (g n s : Nat) (_hg : g < 18446744073709551616) (_hn : n < 18446744073709551616) (hs : s < 4294967296) (A : Option Addr) (c : Nat) (b : List UInt8) (hr : Rd w w.heap.size A b.length b) (hnc : b.length ≤ c) (at_ : Int) (hat : -9223372036854775808 ≤ at_ ∧ at_ ≤ 9223372036854775807) (v : Nat) (hv : v < 4294967296) (hl : b.length ≤ 2000) (h0 : 0 ≤ at_) (h508 : at_ ≤ 508) (hy : slRec b = false) (hok : slOk g n = true) (hv0 : v ≠ 0) :
    Calls Try.prog 4 #[.int .u64 (g : Int), .int .u64 (n : Int), .int .u32 (s : Int), .slice A b.length c, .int .i64 at_, .int .u32 (v : Int)] w fun e w' => e = .returned (.bool true) ∧ Below w.heap.size w w' := by
  have HUP := Lib.hid (up17_any w)
  obtain ⟨pk, rfl⟩ : ∃ pk : Nat, at_ = (pk : Int) := ⟨at_.toNat, by omega⟩
  have hpk : pk ≤ 508 := by omega
  have HG := Lib.hid (fun W (h : Below w.heap.size w W) => slget_any W A b.length c b ((hr.below h).more h.size) hnc)
  have HRB := Lib.hid hr
  obtain ⟨G, hG⟩ : ∃ G, slAt b (slG b) = G := ⟨_, rfl⟩
  obtain ⟨N, hN⟩ : ∃ N, slAt b (slN b) = N := ⟨_, rfl⟩
  obtain ⟨S, hS⟩ : ∃ S, slAt b (slS b) = S := ⟨_, rfl⟩
  rw [hy, hG, hN, hS] at HG
  have HPUT := Lib.hid (fun V => slput_ok V g n s hs hok)
  obtain ⟨p1, p2, p3, p4⟩ := slRec_put hok hs
  have HNONE := Lib.hid (fun x bs' (h : SlTurn (slPut g n s) pk v 4 x bs') => slTurn_none h hv hv0 (by omega))
  obtain ⟨P, hP⟩ : ∃ P, slPut g n s = P := ⟨_, rfl⟩
  have HPL : Hid (P.length = 512) := (show _ = _ by rw [← hP]; exact slPut_len g n s)
  have HGP := Lib.hid (fun W A n c hr hnc => slget_any W A n c P hr hnc)
  rw [hP] at p1 p2 p3 p4 HPUT HNONE
  rw [p1, p2, p3, p4] at HGP
  clear p1 p2 p3 p4 hP
  have gv : ((v : Int) == 0) = false := by rw [beq_eq_false_iff_ne]; omega
  have gv2 : decide ((v : Int) = 0) = false := decide_eq_false (by omega)
  obtain ⟨m, hm⟩ : ∃ m, b.length = m := ⟨_, rfl⟩
  rw [hm] at HG hl HRB
  rw [hm]
  have g1 : decide (2000 < m) = false := decide_eq_false (by omega)
  have g1' : decide ((2000 : Int) < (m : Int)) = false := decide_eq_false (by omega)
  have g2 : decide ((pk : Int) < 0) = false := decide_eq_false (by omega)
  have g3 : decide ((508 : Int) < (pk : Int)) = false := decide_eq_false (by omega)
  clear hr hnc hm hG hN hS hy hok _hg _hn hs hl h0 h508 hat
  go_enter Try.func4, Try.ntmps4
  go_wp2_with fail
  refine HUP.out.mono ?_
  rintro e w1 ⟨rfl, hb1⟩
  have HB := Lib.hid hb1
  clear hb1 HUP
  go_wp2_with fail
  refine (HG.out w1 HB.out).mono ?_
  rintro e w2 ⟨rfl, hb2⟩
  obtain ⟨w3a, hww3a⟩ : ∃ x, w2.alloc (.cells #[.int .u64 0, .int .u64 0, .int .u32 0] 27) = x := ⟨_, rfl⟩
  have hbw3a : Below w2.heap.size w2 w3a := by rw [← hww3a]; exact (Below.refl _ _).alloc (Nat.le_refl _) _
  have nw3a : w3a.heap[w2.heap.size]? = some (.cells #[.int .u64 0, .int .u64 0, .int .u32 0] 27 (0, 0)) := by rw [← hww3a]; exact heap_alloc_new w2 _
  obtain ⟨w3, hww3⟩ : ∃ x, (((w3a.setCell ⟨w2.heap.size, 0, none⟩ (.int .u64 (G : Int))).setCell ⟨w2.heap.size, 1, none⟩ (.int .u64 (N : Int))).setCell ⟨w2.heap.size, 2, none⟩ (.int .u32 (S : Int))) = x := ⟨_, rfl⟩
  have nw3 : w3.heap[w2.heap.size]? = some (.cells #[.int .u64 (G : Int), .int .u64 (N : Int), .int .u32 (S : Int)] 27 (0, 0)) := by rw [← hww3]; exact im_set nw3a _ _ _
  have hbw3 : Below w2.heap.size w2 w3 := by rw [← hww3]; exact ((hbw3a.setCell (p := ⟨w2.heap.size, 0, none⟩) (Nat.le_refl _) _).setCell (p := ⟨w2.heap.size, 1, none⟩) (Nat.le_refl _) _).setCell (p := ⟨w2.heap.size, 2, none⟩) (Nat.le_refl _) _
  obtain ⟨z0, z1, z2⟩ := rk_cells nw3a
  obtain ⟨f0, f1, f2⟩ := im_thaw nw3a
  have hlz := heap_lt1 nw3a
  have HNw3 := Lib.hid nw3
  have HWw3a := Lib.hid hww3a
  have HWw3 := Lib.hid hww3
  have HB3 := Lib.hid (HB.out.trans ((hb2.trans (hbw3.mono hb2.size)).mono HB.out.size))
  clear hb2
  clear hww3a hbw3a nw3a hww3 nw3 hbw3
  go_wp2_with (first | (rw [HWw3a.out]) | (rw [HWw3.out]) | fail)
  go_quiet (fail)
  clear z0 z1 z2 f0 f1 f2 hlz
  obtain ⟨w6, hw6⟩ : ∃ w6, w3.drewN nq = w6 := ⟨_, rfl⟩
  have HB6 := Lib.hid (show Below w.heap.size w w6 by rw [← hw6]; exact HB3.out.trans ((below_dN _ _).mono HB3.out.size))
  rw [hw6]
  clear hw6
  obtain ⟨x3a, hwx3a⟩ : ∃ x, w6.alloc (.cells #[.int .u64 0, .int .u64 0, .int .u32 0] 27) = x := ⟨_, rfl⟩
  have hbx3a : Below w6.heap.size w6 x3a := by rw [← hwx3a]; exact (Below.refl _ _).alloc (Nat.le_refl _) _
  have nx3a : x3a.heap[w6.heap.size]? = some (.cells #[.int .u64 0, .int .u64 0, .int .u32 0] 27 (0, 0)) := by rw [← hwx3a]; exact heap_alloc_new w6 _
  obtain ⟨x3, hwx3⟩ : ∃ x, (((x3a.setCell ⟨w6.heap.size, 0, none⟩ (.int .u64 (g : Int))).setCell ⟨w6.heap.size, 1, none⟩ (.int .u64 (n : Int))).setCell ⟨w6.heap.size, 2, none⟩ (.int .u32 (s : Int))) = x := ⟨_, rfl⟩
  have nx3 : x3.heap[w6.heap.size]? = some (.cells #[.int .u64 (g : Int), .int .u64 (n : Int), .int .u32 (s : Int)] 27 (0, 0)) := by rw [← hwx3]; exact im_set nx3a _ _ _
  have hbx3 : Below w6.heap.size w6 x3 := by rw [← hwx3]; exact ((hbx3a.setCell (p := ⟨w6.heap.size, 0, none⟩) (Nat.le_refl _) _).setCell (p := ⟨w6.heap.size, 1, none⟩) (Nat.le_refl _) _).setCell (p := ⟨w6.heap.size, 2, none⟩) (Nat.le_refl _) _
  obtain ⟨z0, z1, z2⟩ := rk_cells nx3a
  obtain ⟨f0, f1, f2⟩ := im_thaw nx3a
  have hlz := heap_lt1 nx3a
  have HNx3 := Lib.hid nx3
  have HWx3a := Lib.hid hwx3a
  have HWx3 := Lib.hid hwx3
  have HBX := Lib.hid (HB6.out.trans (hbx3.mono HB6.out.size))
  clear hwx3a hbx3a nx3a hwx3 nx3 hbx3
  obtain ⟨c0, c1, c2⟩ := rk_cells HNx3.out
  have hlx := heap_lt1 HNx3.out
  go_wp2_with (first | (rw [HWx3a.out]) | (rw [HWx3.out]) | fail)
  clear z0 z1 z2 f0 f1 f2 hlz c0 c1 c2 hlx
  refine (HPUT.out x3).mono ?_
  rintro e w7 ⟨p, rfl, hpx, hf7, hb7⟩
  have hr7 := hf7.reads
  rw [HPL.out] at hr7
  have HR7 := Lib.hid hr7
  have HB7 := Lib.hid (HBX.out.trans (hb7.mono HBX.out.size))
  have HN7 := Lib.hid ((hb7.block _ (heap_lt1 HNx3.out)).trans HNx3.out)
  have HF7 := Lib.hid hf7
  have hpw : w.heap.size ≤ p := Nat.le_trans HBX.out.size hpx
  clear hb7 hr7 hf7 hpx
  go_wp2_with fail
  refine (HGP.out w7 _ 512 512 HR7.out (Nat.le_refl _)).mono ?_
  rintro e w8 ⟨rfl, hb8⟩
  obtain ⟨y9a, hwy9a⟩ : ∃ x, w8.alloc (.cells #[.int .u64 0, .int .u64 0, .int .u32 0] 27) = x := ⟨_, rfl⟩
  have hby9a : Below w8.heap.size w8 y9a := by rw [← hwy9a]; exact (Below.refl _ _).alloc (Nat.le_refl _) _
  have ny9a : y9a.heap[w8.heap.size]? = some (.cells #[.int .u64 0, .int .u64 0, .int .u32 0] 27 (0, 0)) := by rw [← hwy9a]; exact heap_alloc_new w8 _
  obtain ⟨y9, hwy9⟩ : ∃ x, (((y9a.setCell ⟨w8.heap.size, 0, none⟩ (.int .u64 (g : Int))).setCell ⟨w8.heap.size, 1, none⟩ (.int .u64 (n : Int))).setCell ⟨w8.heap.size, 2, none⟩ (.int .u32 (s : Int))) = x := ⟨_, rfl⟩
  have ny9 : y9.heap[w8.heap.size]? = some (.cells #[.int .u64 (g : Int), .int .u64 (n : Int), .int .u32 (s : Int)] 27 (0, 0)) := by rw [← hwy9]; exact im_set ny9a _ _ _
  have hby9 : Below w8.heap.size w8 y9 := by rw [← hwy9]; exact ((hby9a.setCell (p := ⟨w8.heap.size, 0, none⟩) (Nat.le_refl _) _).setCell (p := ⟨w8.heap.size, 1, none⟩) (Nat.le_refl _) _).setCell (p := ⟨w8.heap.size, 2, none⟩) (Nat.le_refl _) _
  obtain ⟨z0, z1, z2⟩ := rk_cells ny9a
  obtain ⟨f0, f1, f2⟩ := im_thaw ny9a
  have hlz := heap_lt1 ny9a
  have HNy9 := Lib.hid ny9
  have HWy9a := Lib.hid hwy9a
  have HWy9 := Lib.hid hwy9
  have hb89 := hb8.trans (hby9.mono hb8.size)
  have HB9 := Lib.hid (HB7.out.trans (hb89.mono HB7.out.size))
  have n9 := (hb89.block _ (heap_lt1 HN7.out)).trans HN7.out
  have HF9 := Lib.hid (HF7.out.below hb89 HF7.out.lt)
  clear hb8 hb89
  clear hwy9a hby9a ny9a hwy9 ny9 hby9
  obtain ⟨c0, c1, c2⟩ := rk_cells n9
  obtain ⟨d0, d1, d2⟩ := rk_cells HNy9.out
  have hlx := heap_lt1 n9
  have hly := heap_lt1 HNy9.out
  have gg : ((g : Int) == (g : Int)) = true := beq_self_eq_true _
  have gn : ((n : Int) == (n : Int)) = true := beq_self_eq_true _
  have gs : ((s : Int) == (s : Int)) = true := beq_self_eq_true _
  go_wp2_with (first | (rw [HWy9a.out]) | (rw [HWy9.out]) | fail)
  clear z0 z1 z2 f0 f1 f2 hlz c0 c1 c2 d0 d1 d2 hlx hly gg gn gs n9
  go_loopw [5, 20] (fun q t W => ∃ (x j : Nat) (bs' : List UInt8), q = .int .u32 (x : Int) ∧ t = .int .i64 (j : Int) ∧ x < 4294967296 ∧ j ≤ 4 ∧ SlTurn P pk v j x bs' ∧ Fill W p 5 bs' ∧ Below w.heap.size w W) (fun _ t _ => 4 - (intOf t).toNat)
  case atStart => exact ⟨v, 0, P, rfl, rfl, hv, by omega, SlTurn.start P pk v, HF9.out, HB9.out⟩
  case round =>
    obtain ⟨x, j, bs', rfl, rfl, hx, hj, ht4, hf, hb⟩ := hrel
    have hbl' : bs'.length = 512 := by rw [ht4.1]; exact HPL.out
    by_cases hlt : j < 4
    · obtain ⟨u, hu⟩ : ∃ u, bs'[pk + j]? = some u := ⟨bs'[pk + j]'(by omega), List.getElem?_eq_getElem _⟩
      have c0 : wr.cell? ⟨p, pk + j, none⟩ = some (.int .u8 (u.toNat : Int)) := by
        rw [hf.cell, hu]; rfl
      have f0 := hf.thaw (pk + j)
      have lg := hf.lt
      have hi1 : (pk : Int) + (j : Int) < 512 := by omega
      obtain ⟨tb, htb⟩ : ∃ tb : UInt8, tb.toNat = x % 256 := ⟨UInt8.ofNat (x % 256), by simp⟩
      have hm1 : (x : Int) % 256 = (tb.toNat : Int) := by omega
      have hml := tb.toNat_lt
      have hx0 := sl_xor8 u tb
      have HT4 := Lib.hid (ht4.step hlt hu htb)
      obtain ⟨zb, hzb⟩ : ∃ zb, u ^^^ tb = zb := ⟨_, rfl⟩
      rw [hzb] at hx0 HT4
      have hx8 := hx0
      have hcv : ∀ W : World, (convert 23 5 (.int .u32 (x : Int))).run Try.prog W = .ok (.int .u8 (tb.toNat : Int)) W := fun W => by
        rw [← hm1]
        rfl
      have HST := Lib.hid (show Fill (wr.setCell ⟨p, pk + j, none⟩ (.int .u8 (zb.toNat : Int))) p 5 _ from hf.put (pk + j) zb)
      have HBS := Lib.hid (hb.setCell (p := ⟨p, pk + j, none⟩) hpw (.int .u8 (zb.toNat : Int)))
      clear hf hb ht4 htb hbl' hu hzb hx0 hm1
      go_wp2_with fail
      go_roundw
      case rel => exact ⟨x / 256, j + 1, _, by go_num, by go_num, by omega, by omega, HT4.out, HST.out, HBS.out⟩
      case measure => simp only [intOf]; omega
    · obtain rfl : j = 4 := by omega
      have hno := HNONE.out x bs' ht4
      have hr := hf.reads
      rw [hbl'] at hr
      have hg := slget_any wr (some ⟨p, 0, none⟩) 512 512 bs' hr (Nat.le_refl _)
      rw [← slAt_no bs' _ hno, ← slAt_no bs' _ hno, ← slAt_no bs' _ hno, hno] at hg
      have HGT := Lib.hid hg
      have HBR := Lib.hid hb
      clear ht4 hf hb hr hg hno hbl' hx
      go_wp2_with fail
      refine HGT.out.mono ?_
      rintro e v8 ⟨rfl, hb8⟩
      obtain ⟨v9a, hwv9a⟩ : ∃ x, v8.alloc (.cells #[.int .u64 0, .int .u64 0, .int .u32 0] 27) = x := ⟨_, rfl⟩
      have hbv9a : Below v8.heap.size v8 v9a := by rw [← hwv9a]; exact (Below.refl _ _).alloc (Nat.le_refl _) _
      have nv9a : v9a.heap[v8.heap.size]? = some (.cells #[.int .u64 0, .int .u64 0, .int .u32 0] 27 (0, 0)) := by rw [← hwv9a]; exact heap_alloc_new v8 _
      obtain ⟨v9, hwv9⟩ : ∃ x, (((v9a.setCell ⟨v8.heap.size, 0, none⟩ (.int .u64 0)).setCell ⟨v8.heap.size, 1, none⟩ (.int .u64 0)).setCell ⟨v8.heap.size, 2, none⟩ (.int .u32 0)) = x := ⟨_, rfl⟩
      have nv9 : v9.heap[v8.heap.size]? = some (.cells #[.int .u64 0, .int .u64 0, .int .u32 0] 27 (0, 0)) := by rw [← hwv9]; exact im_set nv9a _ _ _
      have hbv9 : Below v8.heap.size v8 v9 := by rw [← hwv9]; exact ((hbv9a.setCell (p := ⟨v8.heap.size, 0, none⟩) (Nat.le_refl _) _).setCell (p := ⟨v8.heap.size, 1, none⟩) (Nat.le_refl _) _).setCell (p := ⟨v8.heap.size, 2, none⟩) (Nat.le_refl _) _
      obtain ⟨z0, z1, z2⟩ := rk_cells nv9a
      obtain ⟨f0, f1, f2⟩ := im_thaw nv9a
      have hlz := heap_lt1 nv9a
      have HNv9 := Lib.hid nv9
      have HWv9a := Lib.hid hwv9a
      have HWv9 := Lib.hid hwv9
      have HF := Lib.hid (HBR.out.trans ((hb8.trans (hbv9.mono hb8.size)).mono HBR.out.size))
      clear hb8
      clear hwv9a hbv9a nv9a hwv9 nv9 hbv9
      go_wp2_with (first | (rw [HWv9a.out]) | (rw [HWv9.out]) | fail)
      go_ret
      exact ⟨rfl, HF.out⟩
set_option maxRecDepth 100000 in
set_option maxHeartbeats 8000000 in
theorem sb_yn (w : World) (g n s : Nat) (_hg : g < 18446744073709551616) (_hn : n < 18446744073709551616) (_hs : s < 4294967296) (A : Option Addr) (c : Nat) (b : List UInt8) (hr : Rd w w.heap.size A b.length b) (hnc : b.length ≤ c) (at_ : Int) (hat : -9223372036854775808 ≤ at_ ∧ at_ ≤ 9223372036854775807) (v : Nat) (_hv : v < 4294967296) (hl : b.length ≤ 2000) (h0 : 0 ≤ at_) (h508 : at_ ≤ 508) (hy : slRec b = true) (hok : slOk g n = false) :
    Calls Try.prog 4 #[.int .u64 (g : Int), .int .u64 (n : Int), .int .u32 (s : Int), .slice A b.length c, .int .i64 at_, .int .u32 (v : Int)] w fun e w' => e = .returned (.bool true) ∧ Below w.heap.size w w' := by
  have HUP := Lib.hid (up17_any w)
  obtain ⟨pk, rfl⟩ : ∃ pk : Nat, at_ = (pk : Int) := ⟨at_.toNat, by omega⟩
  have hpk : pk ≤ 508 := by omega
  have HG := Lib.hid (fun W (h : Below w.heap.size w W) => slget_any W A b.length c b ((hr.below h).more h.size) hnc)
  have HRB := Lib.hid hr
  obtain ⟨G, hG⟩ : ∃ G, slAt b (slG b) = G := ⟨_, rfl⟩
  obtain ⟨N, hN⟩ : ∃ N, slAt b (slN b) = N := ⟨_, rfl⟩
  obtain ⟨S, hS⟩ : ∃ S, slAt b (slS b) = S := ⟨_, rfl⟩
  rw [hy, hG, hN, hS] at HG
  obtain ⟨e1, e2, e3, e4⟩ := slRec_of hy
  have hSl : S < 4294967296 := by rw [← hS, e4]; exact slS_lt b
  have HPUTG : Hid (∀ V, Calls Try.prog 8 #[.agg #[.int .u64 (G : Int), .int .u64 (N : Int), .int .u32 (S : Int)]] V fun e w' => ∃ A m c, e = .returned (.slice A m c) ∧ (A = none → c = 0) ∧ Rd w' w'.heap.size A m b ∧ Below V.heap.size V w') := fun V => by
    have h := slput_any V G N S hSl
    rw [← hG, ← hN, ← hS, e2, e3, e4, e1] at h
    rw [← hG, ← hN, ← hS, e2, e3, e4]
    exact h
  obtain ⟨U, hU⟩ : ∃ U, strB b = U := ⟨_, rfl⟩
  have HU := Lib.hid hU
  clear e1 e2 e3 e4 hSl hU
  have HPUT := Lib.hid (fun V => slput_no V g n s hok)
  obtain ⟨m, hm⟩ : ∃ m, b.length = m := ⟨_, rfl⟩
  rw [hm] at HG hl HRB
  rw [hm]
  have g1 : decide (2000 < m) = false := decide_eq_false (by omega)
  have g1' : decide ((2000 : Int) < (m : Int)) = false := decide_eq_false (by omega)
  have g2 : decide ((pk : Int) < 0) = false := decide_eq_false (by omega)
  have g3 : decide ((508 : Int) < (pk : Int)) = false := decide_eq_false (by omega)
  clear hr hnc hm hG hN hS hy hok _hg _hn _hs hl h0 h508 hat _hv
  go_enter Try.func4, Try.ntmps4
  go_wp2_with fail
  refine HUP.out.mono ?_
  rintro e w1 ⟨rfl, hb1⟩
  have HB := Lib.hid hb1
  clear hb1 HUP
  go_wp2_with fail
  refine (HG.out w1 HB.out).mono ?_
  rintro e w2 ⟨rfl, hb2⟩
  obtain ⟨w3a, hww3a⟩ : ∃ x, w2.alloc (.cells #[.int .u64 0, .int .u64 0, .int .u32 0] 27) = x := ⟨_, rfl⟩
  have hbw3a : Below w2.heap.size w2 w3a := by rw [← hww3a]; exact (Below.refl _ _).alloc (Nat.le_refl _) _
  have nw3a : w3a.heap[w2.heap.size]? = some (.cells #[.int .u64 0, .int .u64 0, .int .u32 0] 27 (0, 0)) := by rw [← hww3a]; exact heap_alloc_new w2 _
  obtain ⟨w3, hww3⟩ : ∃ x, (((w3a.setCell ⟨w2.heap.size, 0, none⟩ (.int .u64 (G : Int))).setCell ⟨w2.heap.size, 1, none⟩ (.int .u64 (N : Int))).setCell ⟨w2.heap.size, 2, none⟩ (.int .u32 (S : Int))) = x := ⟨_, rfl⟩
  have nw3 : w3.heap[w2.heap.size]? = some (.cells #[.int .u64 (G : Int), .int .u64 (N : Int), .int .u32 (S : Int)] 27 (0, 0)) := by rw [← hww3]; exact im_set nw3a _ _ _
  have hbw3 : Below w2.heap.size w2 w3 := by rw [← hww3]; exact ((hbw3a.setCell (p := ⟨w2.heap.size, 0, none⟩) (Nat.le_refl _) _).setCell (p := ⟨w2.heap.size, 1, none⟩) (Nat.le_refl _) _).setCell (p := ⟨w2.heap.size, 2, none⟩) (Nat.le_refl _) _
  obtain ⟨z0, z1, z2⟩ := rk_cells nw3a
  obtain ⟨f0, f1, f2⟩ := im_thaw nw3a
  have hlz := heap_lt1 nw3a
  have HNw3 := Lib.hid nw3
  have HWw3a := Lib.hid hww3a
  have HWw3 := Lib.hid hww3
  have HB3 := Lib.hid (HB.out.trans ((hb2.trans (hbw3.mono hb2.size)).mono HB.out.size))
  clear hb2
  clear hww3a hbw3a nw3a hww3 nw3 hbw3
  obtain ⟨c0, c1, c2⟩ := rk_cells HNw3.out
  have hl3 := heap_lt1 HNw3.out
  go_wp2_with (first | (rw [HWw3a.out]) | (rw [HWw3.out]) | fail)
  clear z0 z1 z2 f0 f1 f2 hlz c0 c1 c2
  obtain ⟨wd, hwd⟩ : ∃ wd, w3.drew = wd := ⟨_, rfl⟩
  have hbd : Below w3.heap.size w3 wd := by rw [← hwd]; exact (Below.refl _ _).drew
  have HBD := Lib.hid (HB3.out.trans (hbd.mono HB3.out.size))
  have HM3 := Lib.hid ((hbd.block _ hl3).trans HNw3.out)
  refine wp_region_tail wd.heap.size [([0, 1, 2, 5, 6], 3)] [4, 7, 8] [] (by kernel_rfl) (by kernel_rfl) (by kernel_rfl) (fun _ _ _ _ _ h => h) ?_
  rw [hwd]
  clear hwd hbd hl3
  obtain ⟨c0, c1, c2⟩ := rk_cells HM3.out
  have hl3 := heap_lt1 HM3.out
  have q0 : ∀ z : LaterB wd.heap.size wd, z.val.cell? ⟨w2.heap.size, 0, none⟩ = some (.int .u64 (G : Int)) := fun z => (z.ext.cell (p := ⟨w2.heap.size, 0, none⟩) hl3).trans c0
  have q1 : ∀ z : LaterB wd.heap.size wd, z.val.cell? ⟨w2.heap.size, 1, none⟩ = some (.int .u64 (N : Int)) := fun z => (z.ext.cell (p := ⟨w2.heap.size, 1, none⟩) hl3).trans c1
  have q2 : ∀ z : LaterB wd.heap.size wd, z.val.cell? ⟨w2.heap.size, 2, none⟩ = some (.int .u32 (S : Int)) := fun z => (z.ext.cell (p := ⟨w2.heap.size, 2, none⟩) hl3).trans c2
  have q3 : ∀ z : LaterB wd.heap.size wd, (convert 24 9 (.slice A m c)).run Try.prog z.val = .ok (.string U) z.val := fun z => by rw [← HU.out]; exact conv_rd ((HRB.out.below HBD.out).more HBD.out.size |>.below z.ext)
  refine tail_cons (l := ?segA) ?hsegA ?_
  case hsegA => simp only [pick, List.getElem?_toArray, List.getElem?_cons_succ, List.getElem?_cons_zero]; rfl
  repeat (go_big_quiet_step (fail))
  refine wpQuiet_nil ?_
  clear q0 q1 q2 q3 c0 c1 c2
  refine tail_call2 (vs := #[.agg #[.int .u64 (G : Int), .int .u64 (N : Int), .int .u32 (S : Int)]]) Try.call8 rfl rfl rfl (R := fun r w' => ∃ A m c, r = .slice A m c ∧ Rd w' w'.heap.size A m b ∧ Below wd.heap.size wd w') ((HPUTG.out wd).mono ?_) ?_
  · rintro e w' ⟨A, m, c, rfl, _, hr, hb⟩
    exact ⟨_, rfl, hb, A, m, c, rfl, hr, hb⟩
  rintro r w6 _ ⟨A6, m6, c6, rfl, hr6, hb6⟩
  refine ⟨w6.heap.size, hb6.size, ?_⟩
  simp only [Act.put, List.setIfInBounds_toArray, List.set_cons_zero, List.set_cons_succ]
  have u6 : ∀ z : LaterB w6.heap.size w6, (convert 24 9 (.slice A6 m6 c6)).run Try.prog z.val = .ok (.string U) z.val := fun z => by rw [← HU.out]; exact conv_rd (hr6.below z.ext)
  have gU : (U.toList == U.toList) = true := beq_self_eq_true _
  have gU2 : (U.toList != U.toList) = false := by rw [bne, gU]; rfl
  refine tail_last (l := ?lastB) (t := []) ?hlastB ?htlastB ?_
  case hlastB => simp only [pick, List.getElem?_toArray, List.getElem?_cons_succ, List.getElem?_cons_zero]; rfl
  case htlastB => rfl
  repeat (go_big_quiet_step (fail))
  refine wpQuiet_nil ?_
  have HB6 := Lib.hid (HBD.out.trans (hb6.mono HBD.out.size))
  clear u6 hr6 hb6 hl3
  obtain ⟨x3a, hwx3a⟩ : ∃ x, w6.alloc (.cells #[.int .u64 0, .int .u64 0, .int .u32 0] 27) = x := ⟨_, rfl⟩
  have hbx3a : Below w6.heap.size w6 x3a := by rw [← hwx3a]; exact (Below.refl _ _).alloc (Nat.le_refl _) _
  have nx3a : x3a.heap[w6.heap.size]? = some (.cells #[.int .u64 0, .int .u64 0, .int .u32 0] 27 (0, 0)) := by rw [← hwx3a]; exact heap_alloc_new w6 _
  obtain ⟨x3, hwx3⟩ : ∃ x, (((x3a.setCell ⟨w6.heap.size, 0, none⟩ (.int .u64 (g : Int))).setCell ⟨w6.heap.size, 1, none⟩ (.int .u64 (n : Int))).setCell ⟨w6.heap.size, 2, none⟩ (.int .u32 (s : Int))) = x := ⟨_, rfl⟩
  have nx3 : x3.heap[w6.heap.size]? = some (.cells #[.int .u64 (g : Int), .int .u64 (n : Int), .int .u32 (s : Int)] 27 (0, 0)) := by rw [← hwx3]; exact im_set nx3a _ _ _
  have hbx3 : Below w6.heap.size w6 x3 := by rw [← hwx3]; exact ((hbx3a.setCell (p := ⟨w6.heap.size, 0, none⟩) (Nat.le_refl _) _).setCell (p := ⟨w6.heap.size, 1, none⟩) (Nat.le_refl _) _).setCell (p := ⟨w6.heap.size, 2, none⟩) (Nat.le_refl _) _
  obtain ⟨z0, z1, z2⟩ := rk_cells nx3a
  obtain ⟨f0, f1, f2⟩ := im_thaw nx3a
  have hlz := heap_lt1 nx3a
  have HNx3 := Lib.hid nx3
  have HWx3a := Lib.hid hwx3a
  have HWx3 := Lib.hid hwx3
  have HBX := Lib.hid (HB6.out.trans (hbx3.mono HB6.out.size))
  clear hwx3a hbx3a nx3a hwx3 nx3 hbx3
  obtain ⟨c0, c1, c2⟩ := rk_cells HNx3.out
  have hlx := heap_lt1 HNx3.out
  go_wp2_with (first | (rw [HWx3a.out]) | (rw [HWx3.out]) | fail)
  clear z0 z1 z2 f0 f1 f2 hlz c0 c1 c2 hlx
  refine (HPUT.out x3).mono ?_
  rintro e w7 ⟨rfl, hb7⟩
  have HF := Lib.hid (HBX.out.trans (hb7.mono HBX.out.size))
  clear hb7
  go_wp2_with fail
  go_ret
  exact ⟨rfl, HF.out⟩
set_option maxRecDepth 100000 in
set_option maxHeartbeats 8000000 in
theorem sb_y0 (w : World) (g n s : Nat) (_hg : g < 18446744073709551616) (_hn : n < 18446744073709551616) (hs : s < 4294967296) (A : Option Addr) (c : Nat) (b : List UInt8) (hr : Rd w w.heap.size A b.length b) (hnc : b.length ≤ c) (at_ : Int) (hat : -9223372036854775808 ≤ at_ ∧ at_ ≤ 9223372036854775807) (v : Nat) (hv : v < 4294967296) (hl : b.length ≤ 2000) (h0 : 0 ≤ at_) (h508 : at_ ≤ 508) (hy : slRec b = true) (hok : slOk g n = true) (hv0 : v = 0) :
    Calls Try.prog 4 #[.int .u64 (g : Int), .int .u64 (n : Int), .int .u32 (s : Int), .slice A b.length c, .int .i64 at_, .int .u32 (v : Int)] w fun e w' => e = .returned (.bool true) ∧ Below w.heap.size w w' := by
  have HUP := Lib.hid (up17_any w)
  obtain ⟨pk, rfl⟩ : ∃ pk : Nat, at_ = (pk : Int) := ⟨at_.toNat, by omega⟩
  have hpk : pk ≤ 508 := by omega
  have HG := Lib.hid (fun W (h : Below w.heap.size w W) => slget_any W A b.length c b ((hr.below h).more h.size) hnc)
  have HRB := Lib.hid hr
  obtain ⟨G, hG⟩ : ∃ G, slAt b (slG b) = G := ⟨_, rfl⟩
  obtain ⟨N, hN⟩ : ∃ N, slAt b (slN b) = N := ⟨_, rfl⟩
  obtain ⟨S, hS⟩ : ∃ S, slAt b (slS b) = S := ⟨_, rfl⟩
  rw [hy, hG, hN, hS] at HG
  obtain ⟨e1, e2, e3, e4⟩ := slRec_of hy
  have hSl : S < 4294967296 := by rw [← hS, e4]; exact slS_lt b
  have HPUTG : Hid (∀ V, Calls Try.prog 8 #[.agg #[.int .u64 (G : Int), .int .u64 (N : Int), .int .u32 (S : Int)]] V fun e w' => ∃ A m c, e = .returned (.slice A m c) ∧ (A = none → c = 0) ∧ Rd w' w'.heap.size A m b ∧ Below V.heap.size V w') := fun V => by
    have h := slput_any V G N S hSl
    rw [← hG, ← hN, ← hS, e2, e3, e4, e1] at h
    rw [← hG, ← hN, ← hS, e2, e3, e4]
    exact h
  obtain ⟨U, hU⟩ : ∃ U, strB b = U := ⟨_, rfl⟩
  have HU := Lib.hid hU
  clear e1 e2 e3 e4 hSl hU
  have HPUT := Lib.hid (fun V => slput_ok V g n s hs hok)
  obtain ⟨p1, p2, p3, p4⟩ := slRec_put hok hs
  obtain ⟨P, hP⟩ : ∃ P, slPut g n s = P := ⟨_, rfl⟩
  have HPL : Hid (P.length = 512) := (show _ = _ by rw [← hP]; exact slPut_len g n s)
  have HGP := Lib.hid (fun W A n c hr hnc => slget_any W A n c P hr hnc)
  rw [hP] at p1 p2 p3 p4 HPUT
  rw [p1, p2, p3, p4] at HGP
  clear p1 p2 p3 p4 hP
  subst hv0
  obtain ⟨m, hm⟩ : ∃ m, b.length = m := ⟨_, rfl⟩
  rw [hm] at HG hl HRB
  rw [hm]
  have g1 : decide (2000 < m) = false := decide_eq_false (by omega)
  have g1' : decide ((2000 : Int) < (m : Int)) = false := decide_eq_false (by omega)
  have g2 : decide ((pk : Int) < 0) = false := decide_eq_false (by omega)
  have g3 : decide ((508 : Int) < (pk : Int)) = false := decide_eq_false (by omega)
  clear hr hnc hm hG hN hS hy hok _hg _hn hs hl h0 h508 hat
  go_enter Try.func4, Try.ntmps4
  go_wp2_with fail
  refine HUP.out.mono ?_
  rintro e w1 ⟨rfl, hb1⟩
  have HB := Lib.hid hb1
  clear hb1 HUP
  go_wp2_with fail
  refine (HG.out w1 HB.out).mono ?_
  rintro e w2 ⟨rfl, hb2⟩
  obtain ⟨w3a, hww3a⟩ : ∃ x, w2.alloc (.cells #[.int .u64 0, .int .u64 0, .int .u32 0] 27) = x := ⟨_, rfl⟩
  have hbw3a : Below w2.heap.size w2 w3a := by rw [← hww3a]; exact (Below.refl _ _).alloc (Nat.le_refl _) _
  have nw3a : w3a.heap[w2.heap.size]? = some (.cells #[.int .u64 0, .int .u64 0, .int .u32 0] 27 (0, 0)) := by rw [← hww3a]; exact heap_alloc_new w2 _
  obtain ⟨w3, hww3⟩ : ∃ x, (((w3a.setCell ⟨w2.heap.size, 0, none⟩ (.int .u64 (G : Int))).setCell ⟨w2.heap.size, 1, none⟩ (.int .u64 (N : Int))).setCell ⟨w2.heap.size, 2, none⟩ (.int .u32 (S : Int))) = x := ⟨_, rfl⟩
  have nw3 : w3.heap[w2.heap.size]? = some (.cells #[.int .u64 (G : Int), .int .u64 (N : Int), .int .u32 (S : Int)] 27 (0, 0)) := by rw [← hww3]; exact im_set nw3a _ _ _
  have hbw3 : Below w2.heap.size w2 w3 := by rw [← hww3]; exact ((hbw3a.setCell (p := ⟨w2.heap.size, 0, none⟩) (Nat.le_refl _) _).setCell (p := ⟨w2.heap.size, 1, none⟩) (Nat.le_refl _) _).setCell (p := ⟨w2.heap.size, 2, none⟩) (Nat.le_refl _) _
  obtain ⟨z0, z1, z2⟩ := rk_cells nw3a
  obtain ⟨f0, f1, f2⟩ := im_thaw nw3a
  have hlz := heap_lt1 nw3a
  have HNw3 := Lib.hid nw3
  have HWw3a := Lib.hid hww3a
  have HWw3 := Lib.hid hww3
  have HB3 := Lib.hid (HB.out.trans ((hb2.trans (hbw3.mono hb2.size)).mono HB.out.size))
  clear hb2
  clear hww3a hbw3a nw3a hww3 nw3 hbw3
  obtain ⟨c0, c1, c2⟩ := rk_cells HNw3.out
  have hl3 := heap_lt1 HNw3.out
  go_wp2_with (first | (rw [HWw3a.out]) | (rw [HWw3.out]) | fail)
  clear z0 z1 z2 f0 f1 f2 hlz c0 c1 c2
  obtain ⟨wd, hwd⟩ : ∃ wd, w3.drew = wd := ⟨_, rfl⟩
  have hbd : Below w3.heap.size w3 wd := by rw [← hwd]; exact (Below.refl _ _).drew
  have HBD := Lib.hid (HB3.out.trans (hbd.mono HB3.out.size))
  have HM3 := Lib.hid ((hbd.block _ hl3).trans HNw3.out)
  refine wp_region_tail wd.heap.size [([0, 1, 2, 5, 6], 3)] [4, 7, 8] [] (by kernel_rfl) (by kernel_rfl) (by kernel_rfl) (fun _ _ _ _ _ h => h) ?_
  rw [hwd]
  clear hwd hbd hl3
  obtain ⟨c0, c1, c2⟩ := rk_cells HM3.out
  have hl3 := heap_lt1 HM3.out
  have q0 : ∀ z : LaterB wd.heap.size wd, z.val.cell? ⟨w2.heap.size, 0, none⟩ = some (.int .u64 (G : Int)) := fun z => (z.ext.cell (p := ⟨w2.heap.size, 0, none⟩) hl3).trans c0
  have q1 : ∀ z : LaterB wd.heap.size wd, z.val.cell? ⟨w2.heap.size, 1, none⟩ = some (.int .u64 (N : Int)) := fun z => (z.ext.cell (p := ⟨w2.heap.size, 1, none⟩) hl3).trans c1
  have q2 : ∀ z : LaterB wd.heap.size wd, z.val.cell? ⟨w2.heap.size, 2, none⟩ = some (.int .u32 (S : Int)) := fun z => (z.ext.cell (p := ⟨w2.heap.size, 2, none⟩) hl3).trans c2
  have q3 : ∀ z : LaterB wd.heap.size wd, (convert 24 9 (.slice A m c)).run Try.prog z.val = .ok (.string U) z.val := fun z => by rw [← HU.out]; exact conv_rd ((HRB.out.below HBD.out).more HBD.out.size |>.below z.ext)
  refine tail_cons (l := ?segA) ?hsegA ?_
  case hsegA => simp only [pick, List.getElem?_toArray, List.getElem?_cons_succ, List.getElem?_cons_zero]; rfl
  repeat (go_big_quiet_step (fail))
  refine wpQuiet_nil ?_
  clear q0 q1 q2 q3 c0 c1 c2
  refine tail_call2 (vs := #[.agg #[.int .u64 (G : Int), .int .u64 (N : Int), .int .u32 (S : Int)]]) Try.call8 rfl rfl rfl (R := fun r w' => ∃ A m c, r = .slice A m c ∧ Rd w' w'.heap.size A m b ∧ Below wd.heap.size wd w') ((HPUTG.out wd).mono ?_) ?_
  · rintro e w' ⟨A, m, c, rfl, _, hr, hb⟩
    exact ⟨_, rfl, hb, A, m, c, rfl, hr, hb⟩
  rintro r w6 _ ⟨A6, m6, c6, rfl, hr6, hb6⟩
  refine ⟨w6.heap.size, hb6.size, ?_⟩
  simp only [Act.put, List.setIfInBounds_toArray, List.set_cons_zero, List.set_cons_succ]
  have u6 : ∀ z : LaterB w6.heap.size w6, (convert 24 9 (.slice A6 m6 c6)).run Try.prog z.val = .ok (.string U) z.val := fun z => by rw [← HU.out]; exact conv_rd (hr6.below z.ext)
  have gU : (U.toList == U.toList) = true := beq_self_eq_true _
  have gU2 : (U.toList != U.toList) = false := by rw [bne, gU]; rfl
  refine tail_last (l := ?lastB) (t := []) ?hlastB ?htlastB ?_
  case hlastB => simp only [pick, List.getElem?_toArray, List.getElem?_cons_succ, List.getElem?_cons_zero]; rfl
  case htlastB => rfl
  repeat (go_big_quiet_step (fail))
  refine wpQuiet_nil ?_
  have HB6 := Lib.hid (HBD.out.trans (hb6.mono HBD.out.size))
  clear u6 hr6 hb6 hl3
  obtain ⟨x3a, hwx3a⟩ : ∃ x, w6.alloc (.cells #[.int .u64 0, .int .u64 0, .int .u32 0] 27) = x := ⟨_, rfl⟩
  have hbx3a : Below w6.heap.size w6 x3a := by rw [← hwx3a]; exact (Below.refl _ _).alloc (Nat.le_refl _) _
  have nx3a : x3a.heap[w6.heap.size]? = some (.cells #[.int .u64 0, .int .u64 0, .int .u32 0] 27 (0, 0)) := by rw [← hwx3a]; exact heap_alloc_new w6 _
  obtain ⟨x3, hwx3⟩ : ∃ x, (((x3a.setCell ⟨w6.heap.size, 0, none⟩ (.int .u64 (g : Int))).setCell ⟨w6.heap.size, 1, none⟩ (.int .u64 (n : Int))).setCell ⟨w6.heap.size, 2, none⟩ (.int .u32 (s : Int))) = x := ⟨_, rfl⟩
  have nx3 : x3.heap[w6.heap.size]? = some (.cells #[.int .u64 (g : Int), .int .u64 (n : Int), .int .u32 (s : Int)] 27 (0, 0)) := by rw [← hwx3]; exact im_set nx3a _ _ _
  have hbx3 : Below w6.heap.size w6 x3 := by rw [← hwx3]; exact ((hbx3a.setCell (p := ⟨w6.heap.size, 0, none⟩) (Nat.le_refl _) _).setCell (p := ⟨w6.heap.size, 1, none⟩) (Nat.le_refl _) _).setCell (p := ⟨w6.heap.size, 2, none⟩) (Nat.le_refl _) _
  obtain ⟨z0, z1, z2⟩ := rk_cells nx3a
  obtain ⟨f0, f1, f2⟩ := im_thaw nx3a
  have hlz := heap_lt1 nx3a
  have HNx3 := Lib.hid nx3
  have HWx3a := Lib.hid hwx3a
  have HWx3 := Lib.hid hwx3
  have HBX := Lib.hid (HB6.out.trans (hbx3.mono HB6.out.size))
  clear hwx3a hbx3a nx3a hwx3 nx3 hbx3
  obtain ⟨c0, c1, c2⟩ := rk_cells HNx3.out
  have hlx := heap_lt1 HNx3.out
  go_wp2_with (first | (rw [HWx3a.out]) | (rw [HWx3.out]) | fail)
  clear z0 z1 z2 f0 f1 f2 hlz c0 c1 c2 hlx
  refine (HPUT.out x3).mono ?_
  rintro e w7 ⟨p, rfl, hpx, hf7, hb7⟩
  have hr7 := hf7.reads
  rw [HPL.out] at hr7
  have HR7 := Lib.hid hr7
  have HB7 := Lib.hid (HBX.out.trans (hb7.mono HBX.out.size))
  have HN7 := Lib.hid ((hb7.block _ (heap_lt1 HNx3.out)).trans HNx3.out)
  have HF7 := Lib.hid hf7
  have hpw : w.heap.size ≤ p := Nat.le_trans HBX.out.size hpx
  clear hb7 hr7 hf7 hpx
  go_wp2_with fail
  refine (HGP.out w7 _ 512 512 HR7.out (Nat.le_refl _)).mono ?_
  rintro e w8 ⟨rfl, hb8⟩
  obtain ⟨y9a, hwy9a⟩ : ∃ x, w8.alloc (.cells #[.int .u64 0, .int .u64 0, .int .u32 0] 27) = x := ⟨_, rfl⟩
  have hby9a : Below w8.heap.size w8 y9a := by rw [← hwy9a]; exact (Below.refl _ _).alloc (Nat.le_refl _) _
  have ny9a : y9a.heap[w8.heap.size]? = some (.cells #[.int .u64 0, .int .u64 0, .int .u32 0] 27 (0, 0)) := by rw [← hwy9a]; exact heap_alloc_new w8 _
  obtain ⟨y9, hwy9⟩ : ∃ x, (((y9a.setCell ⟨w8.heap.size, 0, none⟩ (.int .u64 (g : Int))).setCell ⟨w8.heap.size, 1, none⟩ (.int .u64 (n : Int))).setCell ⟨w8.heap.size, 2, none⟩ (.int .u32 (s : Int))) = x := ⟨_, rfl⟩
  have ny9 : y9.heap[w8.heap.size]? = some (.cells #[.int .u64 (g : Int), .int .u64 (n : Int), .int .u32 (s : Int)] 27 (0, 0)) := by rw [← hwy9]; exact im_set ny9a _ _ _
  have hby9 : Below w8.heap.size w8 y9 := by rw [← hwy9]; exact ((hby9a.setCell (p := ⟨w8.heap.size, 0, none⟩) (Nat.le_refl _) _).setCell (p := ⟨w8.heap.size, 1, none⟩) (Nat.le_refl _) _).setCell (p := ⟨w8.heap.size, 2, none⟩) (Nat.le_refl _) _
  obtain ⟨z0, z1, z2⟩ := rk_cells ny9a
  obtain ⟨f0, f1, f2⟩ := im_thaw ny9a
  have hlz := heap_lt1 ny9a
  have HNy9 := Lib.hid ny9
  have HWy9a := Lib.hid hwy9a
  have HWy9 := Lib.hid hwy9
  have hb89 := hb8.trans (hby9.mono hb8.size)
  have HB9 := Lib.hid (HB7.out.trans (hb89.mono HB7.out.size))
  have n9 := (hb89.block _ (heap_lt1 HN7.out)).trans HN7.out
  have HF9 := Lib.hid (HF7.out.below hb89 HF7.out.lt)
  clear hb8 hb89
  clear hwy9a hby9a ny9a hwy9 ny9 hby9
  obtain ⟨c0, c1, c2⟩ := rk_cells n9
  obtain ⟨d0, d1, d2⟩ := rk_cells HNy9.out
  have hlx := heap_lt1 n9
  have hly := heap_lt1 HNy9.out
  have gg : ((g : Int) == (g : Int)) = true := beq_self_eq_true _
  have gn : ((n : Int) == (n : Int)) = true := beq_self_eq_true _
  have gs : ((s : Int) == (s : Int)) = true := beq_self_eq_true _
  go_wp2_with (first | (rw [HWy9a.out]) | (rw [HWy9.out]) | fail)
  go_ret
  exact ⟨rfl, HB9.out⟩
set_option maxRecDepth 100000 in
set_option maxHeartbeats 8000000 in
theorem sb_yt (w : World) (g n s : Nat) (_hg : g < 18446744073709551616) (_hn : n < 18446744073709551616) (hs : s < 4294967296) (A : Option Addr) (c : Nat) (b : List UInt8) (hr : Rd w w.heap.size A b.length b) (hnc : b.length ≤ c) (at_ : Int) (hat : -9223372036854775808 ≤ at_ ∧ at_ ≤ 9223372036854775807) (v : Nat) (hv : v < 4294967296) (hl : b.length ≤ 2000) (h0 : 0 ≤ at_) (h508 : at_ ≤ 508) (hy : slRec b = true) (hok : slOk g n = true) (hv0 : v ≠ 0) :
    Calls Try.prog 4 #[.int .u64 (g : Int), .int .u64 (n : Int), .int .u32 (s : Int), .slice A b.length c, .int .i64 at_, .int .u32 (v : Int)] w fun e w' => e = .returned (.bool true) ∧ Below w.heap.size w w' := by
  have HUP := Lib.hid (up17_any w)
  obtain ⟨pk, rfl⟩ : ∃ pk : Nat, at_ = (pk : Int) := ⟨at_.toNat, by omega⟩
  have hpk : pk ≤ 508 := by omega
  have HG := Lib.hid (fun W (h : Below w.heap.size w W) => slget_any W A b.length c b ((hr.below h).more h.size) hnc)
  have HRB := Lib.hid hr
  obtain ⟨G, hG⟩ : ∃ G, slAt b (slG b) = G := ⟨_, rfl⟩
  obtain ⟨N, hN⟩ : ∃ N, slAt b (slN b) = N := ⟨_, rfl⟩
  obtain ⟨S, hS⟩ : ∃ S, slAt b (slS b) = S := ⟨_, rfl⟩
  rw [hy, hG, hN, hS] at HG
  obtain ⟨e1, e2, e3, e4⟩ := slRec_of hy
  have hSl : S < 4294967296 := by rw [← hS, e4]; exact slS_lt b
  have HPUTG : Hid (∀ V, Calls Try.prog 8 #[.agg #[.int .u64 (G : Int), .int .u64 (N : Int), .int .u32 (S : Int)]] V fun e w' => ∃ A m c, e = .returned (.slice A m c) ∧ (A = none → c = 0) ∧ Rd w' w'.heap.size A m b ∧ Below V.heap.size V w') := fun V => by
    have h := slput_any V G N S hSl
    rw [← hG, ← hN, ← hS, e2, e3, e4, e1] at h
    rw [← hG, ← hN, ← hS, e2, e3, e4]
    exact h
  obtain ⟨U, hU⟩ : ∃ U, strB b = U := ⟨_, rfl⟩
  have HU := Lib.hid hU
  clear e1 e2 e3 e4 hSl hU
  have HPUT := Lib.hid (fun V => slput_ok V g n s hs hok)
  obtain ⟨p1, p2, p3, p4⟩ := slRec_put hok hs
  have HNONE := Lib.hid (fun x bs' (h : SlTurn (slPut g n s) pk v 4 x bs') => slTurn_none h hv hv0 (by omega))
  obtain ⟨P, hP⟩ : ∃ P, slPut g n s = P := ⟨_, rfl⟩
  have HPL : Hid (P.length = 512) := (show _ = _ by rw [← hP]; exact slPut_len g n s)
  have HGP := Lib.hid (fun W A n c hr hnc => slget_any W A n c P hr hnc)
  rw [hP] at p1 p2 p3 p4 HPUT HNONE
  rw [p1, p2, p3, p4] at HGP
  clear p1 p2 p3 p4 hP
  have gv : ((v : Int) == 0) = false := by rw [beq_eq_false_iff_ne]; omega
  have gv2 : decide ((v : Int) = 0) = false := decide_eq_false (by omega)
  obtain ⟨m, hm⟩ : ∃ m, b.length = m := ⟨_, rfl⟩
  rw [hm] at HG hl HRB
  rw [hm]
  have g1 : decide (2000 < m) = false := decide_eq_false (by omega)
  have g1' : decide ((2000 : Int) < (m : Int)) = false := decide_eq_false (by omega)
  have g2 : decide ((pk : Int) < 0) = false := decide_eq_false (by omega)
  have g3 : decide ((508 : Int) < (pk : Int)) = false := decide_eq_false (by omega)
  clear hr hnc hm hG hN hS hy hok _hg _hn hs hl h0 h508 hat
  go_enter Try.func4, Try.ntmps4
  go_wp2_with fail
  refine HUP.out.mono ?_
  rintro e w1 ⟨rfl, hb1⟩
  have HB := Lib.hid hb1
  clear hb1 HUP
  go_wp2_with fail
  refine (HG.out w1 HB.out).mono ?_
  rintro e w2 ⟨rfl, hb2⟩
  obtain ⟨w3a, hww3a⟩ : ∃ x, w2.alloc (.cells #[.int .u64 0, .int .u64 0, .int .u32 0] 27) = x := ⟨_, rfl⟩
  have hbw3a : Below w2.heap.size w2 w3a := by rw [← hww3a]; exact (Below.refl _ _).alloc (Nat.le_refl _) _
  have nw3a : w3a.heap[w2.heap.size]? = some (.cells #[.int .u64 0, .int .u64 0, .int .u32 0] 27 (0, 0)) := by rw [← hww3a]; exact heap_alloc_new w2 _
  obtain ⟨w3, hww3⟩ : ∃ x, (((w3a.setCell ⟨w2.heap.size, 0, none⟩ (.int .u64 (G : Int))).setCell ⟨w2.heap.size, 1, none⟩ (.int .u64 (N : Int))).setCell ⟨w2.heap.size, 2, none⟩ (.int .u32 (S : Int))) = x := ⟨_, rfl⟩
  have nw3 : w3.heap[w2.heap.size]? = some (.cells #[.int .u64 (G : Int), .int .u64 (N : Int), .int .u32 (S : Int)] 27 (0, 0)) := by rw [← hww3]; exact im_set nw3a _ _ _
  have hbw3 : Below w2.heap.size w2 w3 := by rw [← hww3]; exact ((hbw3a.setCell (p := ⟨w2.heap.size, 0, none⟩) (Nat.le_refl _) _).setCell (p := ⟨w2.heap.size, 1, none⟩) (Nat.le_refl _) _).setCell (p := ⟨w2.heap.size, 2, none⟩) (Nat.le_refl _) _
  obtain ⟨z0, z1, z2⟩ := rk_cells nw3a
  obtain ⟨f0, f1, f2⟩ := im_thaw nw3a
  have hlz := heap_lt1 nw3a
  have HNw3 := Lib.hid nw3
  have HWw3a := Lib.hid hww3a
  have HWw3 := Lib.hid hww3
  have HB3 := Lib.hid (HB.out.trans ((hb2.trans (hbw3.mono hb2.size)).mono HB.out.size))
  clear hb2
  clear hww3a hbw3a nw3a hww3 nw3 hbw3
  obtain ⟨c0, c1, c2⟩ := rk_cells HNw3.out
  have hl3 := heap_lt1 HNw3.out
  go_wp2_with (first | (rw [HWw3a.out]) | (rw [HWw3.out]) | fail)
  clear z0 z1 z2 f0 f1 f2 hlz c0 c1 c2
  obtain ⟨wd, hwd⟩ : ∃ wd, w3.drew = wd := ⟨_, rfl⟩
  have hbd : Below w3.heap.size w3 wd := by rw [← hwd]; exact (Below.refl _ _).drew
  have HBD := Lib.hid (HB3.out.trans (hbd.mono HB3.out.size))
  have HM3 := Lib.hid ((hbd.block _ hl3).trans HNw3.out)
  refine wp_region_tail wd.heap.size [([0, 1, 2, 5, 6], 3)] [4, 7, 8] [] (by kernel_rfl) (by kernel_rfl) (by kernel_rfl) (fun _ _ _ _ _ h => h) ?_
  rw [hwd]
  clear hwd hbd hl3
  obtain ⟨c0, c1, c2⟩ := rk_cells HM3.out
  have hl3 := heap_lt1 HM3.out
  have q0 : ∀ z : LaterB wd.heap.size wd, z.val.cell? ⟨w2.heap.size, 0, none⟩ = some (.int .u64 (G : Int)) := fun z => (z.ext.cell (p := ⟨w2.heap.size, 0, none⟩) hl3).trans c0
  have q1 : ∀ z : LaterB wd.heap.size wd, z.val.cell? ⟨w2.heap.size, 1, none⟩ = some (.int .u64 (N : Int)) := fun z => (z.ext.cell (p := ⟨w2.heap.size, 1, none⟩) hl3).trans c1
  have q2 : ∀ z : LaterB wd.heap.size wd, z.val.cell? ⟨w2.heap.size, 2, none⟩ = some (.int .u32 (S : Int)) := fun z => (z.ext.cell (p := ⟨w2.heap.size, 2, none⟩) hl3).trans c2
  have q3 : ∀ z : LaterB wd.heap.size wd, (convert 24 9 (.slice A m c)).run Try.prog z.val = .ok (.string U) z.val := fun z => by rw [← HU.out]; exact conv_rd ((HRB.out.below HBD.out).more HBD.out.size |>.below z.ext)
  refine tail_cons (l := ?segA) ?hsegA ?_
  case hsegA => simp only [pick, List.getElem?_toArray, List.getElem?_cons_succ, List.getElem?_cons_zero]; rfl
  repeat (go_big_quiet_step (fail))
  refine wpQuiet_nil ?_
  clear q0 q1 q2 q3 c0 c1 c2
  refine tail_call2 (vs := #[.agg #[.int .u64 (G : Int), .int .u64 (N : Int), .int .u32 (S : Int)]]) Try.call8 rfl rfl rfl (R := fun r w' => ∃ A m c, r = .slice A m c ∧ Rd w' w'.heap.size A m b ∧ Below wd.heap.size wd w') ((HPUTG.out wd).mono ?_) ?_
  · rintro e w' ⟨A, m, c, rfl, _, hr, hb⟩
    exact ⟨_, rfl, hb, A, m, c, rfl, hr, hb⟩
  rintro r w6 _ ⟨A6, m6, c6, rfl, hr6, hb6⟩
  refine ⟨w6.heap.size, hb6.size, ?_⟩
  simp only [Act.put, List.setIfInBounds_toArray, List.set_cons_zero, List.set_cons_succ]
  have u6 : ∀ z : LaterB w6.heap.size w6, (convert 24 9 (.slice A6 m6 c6)).run Try.prog z.val = .ok (.string U) z.val := fun z => by rw [← HU.out]; exact conv_rd (hr6.below z.ext)
  have gU : (U.toList == U.toList) = true := beq_self_eq_true _
  have gU2 : (U.toList != U.toList) = false := by rw [bne, gU]; rfl
  refine tail_last (l := ?lastB) (t := []) ?hlastB ?htlastB ?_
  case hlastB => simp only [pick, List.getElem?_toArray, List.getElem?_cons_succ, List.getElem?_cons_zero]; rfl
  case htlastB => rfl
  repeat (go_big_quiet_step (fail))
  refine wpQuiet_nil ?_
  have HB6 := Lib.hid (HBD.out.trans (hb6.mono HBD.out.size))
  clear u6 hr6 hb6 hl3
  obtain ⟨x3a, hwx3a⟩ : ∃ x, w6.alloc (.cells #[.int .u64 0, .int .u64 0, .int .u32 0] 27) = x := ⟨_, rfl⟩
  have hbx3a : Below w6.heap.size w6 x3a := by rw [← hwx3a]; exact (Below.refl _ _).alloc (Nat.le_refl _) _
  have nx3a : x3a.heap[w6.heap.size]? = some (.cells #[.int .u64 0, .int .u64 0, .int .u32 0] 27 (0, 0)) := by rw [← hwx3a]; exact heap_alloc_new w6 _
  obtain ⟨x3, hwx3⟩ : ∃ x, (((x3a.setCell ⟨w6.heap.size, 0, none⟩ (.int .u64 (g : Int))).setCell ⟨w6.heap.size, 1, none⟩ (.int .u64 (n : Int))).setCell ⟨w6.heap.size, 2, none⟩ (.int .u32 (s : Int))) = x := ⟨_, rfl⟩
  have nx3 : x3.heap[w6.heap.size]? = some (.cells #[.int .u64 (g : Int), .int .u64 (n : Int), .int .u32 (s : Int)] 27 (0, 0)) := by rw [← hwx3]; exact im_set nx3a _ _ _
  have hbx3 : Below w6.heap.size w6 x3 := by rw [← hwx3]; exact ((hbx3a.setCell (p := ⟨w6.heap.size, 0, none⟩) (Nat.le_refl _) _).setCell (p := ⟨w6.heap.size, 1, none⟩) (Nat.le_refl _) _).setCell (p := ⟨w6.heap.size, 2, none⟩) (Nat.le_refl _) _
  obtain ⟨z0, z1, z2⟩ := rk_cells nx3a
  obtain ⟨f0, f1, f2⟩ := im_thaw nx3a
  have hlz := heap_lt1 nx3a
  have HNx3 := Lib.hid nx3
  have HWx3a := Lib.hid hwx3a
  have HWx3 := Lib.hid hwx3
  have HBX := Lib.hid (HB6.out.trans (hbx3.mono HB6.out.size))
  clear hwx3a hbx3a nx3a hwx3 nx3 hbx3
  obtain ⟨c0, c1, c2⟩ := rk_cells HNx3.out
  have hlx := heap_lt1 HNx3.out
  go_wp2_with (first | (rw [HWx3a.out]) | (rw [HWx3.out]) | fail)
  clear z0 z1 z2 f0 f1 f2 hlz c0 c1 c2 hlx
  refine (HPUT.out x3).mono ?_
  rintro e w7 ⟨p, rfl, hpx, hf7, hb7⟩
  have hr7 := hf7.reads
  rw [HPL.out] at hr7
  have HR7 := Lib.hid hr7
  have HB7 := Lib.hid (HBX.out.trans (hb7.mono HBX.out.size))
  have HN7 := Lib.hid ((hb7.block _ (heap_lt1 HNx3.out)).trans HNx3.out)
  have HF7 := Lib.hid hf7
  have hpw : w.heap.size ≤ p := Nat.le_trans HBX.out.size hpx
  clear hb7 hr7 hf7 hpx
  go_wp2_with fail
  refine (HGP.out w7 _ 512 512 HR7.out (Nat.le_refl _)).mono ?_
  rintro e w8 ⟨rfl, hb8⟩
  obtain ⟨y9a, hwy9a⟩ : ∃ x, w8.alloc (.cells #[.int .u64 0, .int .u64 0, .int .u32 0] 27) = x := ⟨_, rfl⟩
  have hby9a : Below w8.heap.size w8 y9a := by rw [← hwy9a]; exact (Below.refl _ _).alloc (Nat.le_refl _) _
  have ny9a : y9a.heap[w8.heap.size]? = some (.cells #[.int .u64 0, .int .u64 0, .int .u32 0] 27 (0, 0)) := by rw [← hwy9a]; exact heap_alloc_new w8 _
  obtain ⟨y9, hwy9⟩ : ∃ x, (((y9a.setCell ⟨w8.heap.size, 0, none⟩ (.int .u64 (g : Int))).setCell ⟨w8.heap.size, 1, none⟩ (.int .u64 (n : Int))).setCell ⟨w8.heap.size, 2, none⟩ (.int .u32 (s : Int))) = x := ⟨_, rfl⟩
  have ny9 : y9.heap[w8.heap.size]? = some (.cells #[.int .u64 (g : Int), .int .u64 (n : Int), .int .u32 (s : Int)] 27 (0, 0)) := by rw [← hwy9]; exact im_set ny9a _ _ _
  have hby9 : Below w8.heap.size w8 y9 := by rw [← hwy9]; exact ((hby9a.setCell (p := ⟨w8.heap.size, 0, none⟩) (Nat.le_refl _) _).setCell (p := ⟨w8.heap.size, 1, none⟩) (Nat.le_refl _) _).setCell (p := ⟨w8.heap.size, 2, none⟩) (Nat.le_refl _) _
  obtain ⟨z0, z1, z2⟩ := rk_cells ny9a
  obtain ⟨f0, f1, f2⟩ := im_thaw ny9a
  have hlz := heap_lt1 ny9a
  have HNy9 := Lib.hid ny9
  have HWy9a := Lib.hid hwy9a
  have HWy9 := Lib.hid hwy9
  have hb89 := hb8.trans (hby9.mono hb8.size)
  have HB9 := Lib.hid (HB7.out.trans (hb89.mono HB7.out.size))
  have n9 := (hb89.block _ (heap_lt1 HN7.out)).trans HN7.out
  have HF9 := Lib.hid (HF7.out.below hb89 HF7.out.lt)
  clear hb8 hb89
  clear hwy9a hby9a ny9a hwy9 ny9 hby9
  obtain ⟨c0, c1, c2⟩ := rk_cells n9
  obtain ⟨d0, d1, d2⟩ := rk_cells HNy9.out
  have hlx := heap_lt1 n9
  have hly := heap_lt1 HNy9.out
  have gg : ((g : Int) == (g : Int)) = true := beq_self_eq_true _
  have gn : ((n : Int) == (n : Int)) = true := beq_self_eq_true _
  have gs : ((s : Int) == (s : Int)) = true := beq_self_eq_true _
  go_wp2_with (first | (rw [HWy9a.out]) | (rw [HWy9.out]) | fail)
  clear z0 z1 z2 f0 f1 f2 hlz c0 c1 c2 d0 d1 d2 hlx hly gg gn gs n9
  go_loopw [5, 20] (fun q t W => ∃ (x j : Nat) (bs' : List UInt8), q = .int .u32 (x : Int) ∧ t = .int .i64 (j : Int) ∧ x < 4294967296 ∧ j ≤ 4 ∧ SlTurn P pk v j x bs' ∧ Fill W p 5 bs' ∧ Below w.heap.size w W) (fun _ t _ => 4 - (intOf t).toNat)
  case atStart => exact ⟨v, 0, P, rfl, rfl, hv, by omega, SlTurn.start P pk v, HF9.out, HB9.out⟩
  case round =>
    obtain ⟨x, j, bs', rfl, rfl, hx, hj, ht4, hf, hb⟩ := hrel
    have hbl' : bs'.length = 512 := by rw [ht4.1]; exact HPL.out
    by_cases hlt : j < 4
    · obtain ⟨u, hu⟩ : ∃ u, bs'[pk + j]? = some u := ⟨bs'[pk + j]'(by omega), List.getElem?_eq_getElem _⟩
      have c0 : wr.cell? ⟨p, pk + j, none⟩ = some (.int .u8 (u.toNat : Int)) := by
        rw [hf.cell, hu]; rfl
      have f0 := hf.thaw (pk + j)
      have lg := hf.lt
      have hi1 : (pk : Int) + (j : Int) < 512 := by omega
      obtain ⟨tb, htb⟩ : ∃ tb : UInt8, tb.toNat = x % 256 := ⟨UInt8.ofNat (x % 256), by simp⟩
      have hm1 : (x : Int) % 256 = (tb.toNat : Int) := by omega
      have hml := tb.toNat_lt
      have hx0 := sl_xor8 u tb
      have HT4 := Lib.hid (ht4.step hlt hu htb)
      obtain ⟨zb, hzb⟩ : ∃ zb, u ^^^ tb = zb := ⟨_, rfl⟩
      rw [hzb] at hx0 HT4
      have hx8 := hx0
      have hcv : ∀ W : World, (convert 23 5 (.int .u32 (x : Int))).run Try.prog W = .ok (.int .u8 (tb.toNat : Int)) W := fun W => by
        rw [← hm1]
        rfl
      have HST := Lib.hid (show Fill (wr.setCell ⟨p, pk + j, none⟩ (.int .u8 (zb.toNat : Int))) p 5 _ from hf.put (pk + j) zb)
      have HBS := Lib.hid (hb.setCell (p := ⟨p, pk + j, none⟩) hpw (.int .u8 (zb.toNat : Int)))
      clear hf hb ht4 htb hbl' hu hzb hx0 hm1
      go_wp2_with fail
      go_roundw
      case rel => exact ⟨x / 256, j + 1, _, by go_num, by go_num, by omega, by omega, HT4.out, HST.out, HBS.out⟩
      case measure => simp only [intOf]; omega
    · obtain rfl : j = 4 := by omega
      have hno := HNONE.out x bs' ht4
      have hr := hf.reads
      rw [hbl'] at hr
      have hg := slget_any wr (some ⟨p, 0, none⟩) 512 512 bs' hr (Nat.le_refl _)
      rw [← slAt_no bs' _ hno, ← slAt_no bs' _ hno, ← slAt_no bs' _ hno, hno] at hg
      have HGT := Lib.hid hg
      have HBR := Lib.hid hb
      clear ht4 hf hb hr hg hno hbl' hx
      go_wp2_with fail
      refine HGT.out.mono ?_
      rintro e v8 ⟨rfl, hb8⟩
      obtain ⟨v9a, hwv9a⟩ : ∃ x, v8.alloc (.cells #[.int .u64 0, .int .u64 0, .int .u32 0] 27) = x := ⟨_, rfl⟩
      have hbv9a : Below v8.heap.size v8 v9a := by rw [← hwv9a]; exact (Below.refl _ _).alloc (Nat.le_refl _) _
      have nv9a : v9a.heap[v8.heap.size]? = some (.cells #[.int .u64 0, .int .u64 0, .int .u32 0] 27 (0, 0)) := by rw [← hwv9a]; exact heap_alloc_new v8 _
      obtain ⟨v9, hwv9⟩ : ∃ x, (((v9a.setCell ⟨v8.heap.size, 0, none⟩ (.int .u64 0)).setCell ⟨v8.heap.size, 1, none⟩ (.int .u64 0)).setCell ⟨v8.heap.size, 2, none⟩ (.int .u32 0)) = x := ⟨_, rfl⟩
      have nv9 : v9.heap[v8.heap.size]? = some (.cells #[.int .u64 0, .int .u64 0, .int .u32 0] 27 (0, 0)) := by rw [← hwv9]; exact im_set nv9a _ _ _
      have hbv9 : Below v8.heap.size v8 v9 := by rw [← hwv9]; exact ((hbv9a.setCell (p := ⟨v8.heap.size, 0, none⟩) (Nat.le_refl _) _).setCell (p := ⟨v8.heap.size, 1, none⟩) (Nat.le_refl _) _).setCell (p := ⟨v8.heap.size, 2, none⟩) (Nat.le_refl _) _
      obtain ⟨z0, z1, z2⟩ := rk_cells nv9a
      obtain ⟨f0, f1, f2⟩ := im_thaw nv9a
      have hlz := heap_lt1 nv9a
      have HNv9 := Lib.hid nv9
      have HWv9a := Lib.hid hwv9a
      have HWv9 := Lib.hid hwv9
      have HF := Lib.hid (HBR.out.trans ((hb8.trans (hbv9.mono hb8.size)).mono HBR.out.size))
      clear hb8
      clear hwv9a hbv9a nv9a hwv9 nv9 hbv9
      go_wp2_with (first | (rw [HWv9a.out]) | (rw [HWv9.out]) | fail)
      go_ret
      exact ⟨rfl, HF.out⟩
end Go.Proofs.Yteomiekjcnpnlaa
