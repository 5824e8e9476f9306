/- The walk of ImageBack (genlaw15d.py). -/
import Derived.Test.YtlhahibdddcpfaaLaw15c
import Derived.Test.YtlhahibdddcpfaaImg23
import Derived.Test.YtlhahibdddcpfaaLaw00
import Derived.Laws.BitsAllLaws
namespace Go.Proofs.Ytlhahibdddcpfaa
open Go.RowKit

set_option maxRecDepth 100000 in
set_option maxHeartbeats 1000000 in
/-- The document's Same, of images of other lengths. -/
theorem rsame_ne (w : World) (n m : Int) (hnm : n ≠ m) (A1 A2 C1 C2 : Option Addr) (a1 a2 b1 b2 e1 e2 f1 f2 : Nat) :
    Calls Try.prog 16 #[imV n A1 a1 b1 A2 a2 b2, imV m C1 e1 f1 C2 e2 f2] w fun e w' => e = .returned (.bool false) ∧ Below w.heap.size w w' := by
  unfold imV
  obtain ⟨w1, hw1⟩ : ∃ w1, w.alloc (.cells #[.int .i64 n, .slice A1 a1 b1, .slice A2 a2 b2] 29) = w1 := ⟨_, rfl⟩
  obtain ⟨w2, hw2⟩ : ∃ w2, w1.alloc (.cells #[.int .i64 m, .slice C1 e1 f1, .slice C2 e2 f2] 29) = w2 := ⟨_, rfl⟩
  have hb1 : Below w.heap.size w w1 := by rw [← hw1]; exact (Below.refl _ _).alloc (Nat.le_refl _) _
  have hb2 : Below w1.heap.size w1 w2 := by rw [← hw2]; exact (Below.refl _ _).alloc (Nat.le_refl _) _
  have n1 : w1.heap[w.heap.size]? = some (.cells #[.int .i64 n, .slice A1 a1 b1, .slice A2 a2 b2] 29 (0, 0)) := by rw [← hw1]; exact heap_alloc_new w _
  have m2 : w2.heap[w1.heap.size]? = some (.cells #[.int .i64 m, .slice C1 e1 f1, .slice C2 e2 f2] 29 (0, 0)) := by rw [← hw2]; exact heap_alloc_new w1 _
  have n2 := (hb2.block _ (heap_lt1 n1)).trans n1
  have HW1 := Lib.hid hw1
  have HW2 := Lib.hid hw2
  have HB2 := Lib.hid (hb1.trans (hb2.mono hb1.size))
  obtain ⟨a0, _, _⟩ := rk_cells n2
  obtain ⟨b0, _, _⟩ := rk_cells m2
  have g1 : (n != m) = true := by rw [bne_iff_ne]; exact hnm
  clear hw1 hw2 hb1 hb2 n1 m2 n2
  go_enter Try.func16, Try.ntmps16
  go_wp2_with (first | (rw [HW1.out]) | (rw [HW2.out]) | fail)
  go_ret
  exact ⟨rfl, HB2.out⟩
/-- Bytes of which four that stand together may be others. -/
def turn4 (k : Nat) (bs bs' : List UInt8) : Prop := bs'.length = bs.length ∧ ∀ i, i < k ∨ k + 4 ≤ i → bs'[i]? = bs[i]?
theorem turn4_parts {k : Nat} {bs bs' : List UInt8} (h : turn4 k bs bs') : bs' = bs.take k ++ (bs'.drop k).take 4 ++ bs.drop (k + 4) := by
  have e : bs' = bs'.take k ++ (bs'.drop k).take 4 ++ bs'.drop (k + 4) := by
    rw [List.append_assoc, ← List.drop_drop, List.take_append_drop, List.take_append_drop]
  have e1 : bs'.take k = bs.take k := by
    apply List.ext_getElem?
    intro i
    rw [List.getElem?_take, List.getElem?_take]
    by_cases hi : i < k
    · rw [if_pos hi, if_pos hi, h.2 i (.inl hi)]
    · rw [if_neg hi, if_neg hi]
  have e2 : bs'.drop (k + 4) = bs.drop (k + 4) := by
    apply List.ext_getElem?
    intro i
    rw [List.getElem?_drop, List.getElem?_drop, h.2 _ (.inr (by omega))]
  rw [e1, e2] at e
  exact e
theorem turn4_good {k N N' : Nat} {l l' : List Rk} {d d' : List (List UInt8)} {bs bs' : List UInt8} (hk : k + 4 ≤ bs.length) (h : turn4 k bs bs') (hg : Good bs N l d) (hg' : Good bs' N' l' d') : N' = N ∧ l' = l ∧ d' = d := by
  have e' := turn4_parts h
  have e : bs = bs.take k ++ (bs.drop k).take 4 ++ bs.drop (k + 4) := by
    rw [List.append_assoc, ← List.drop_drop, List.take_append_drop, List.take_append_drop]
  have hq : ((bs.drop k).take 4).length = 4 := by rw [List.length_take, List.length_drop]; omega
  have hq' : ((bs'.drop k).take 4).length = 4 := by rw [List.length_take, List.length_drop, h.1]; omega
  have e4 : (bs'.drop k).take 4 = (bs.drop k).take 4 := by
    have h1 := hg
    have h2 := hg'
    rw [e] at h1
    rw [e'] at h2
    exact h1.turned hq hq' h2
  have e5 : bs' = bs := by rw [e', e4]; exact e.symm
  have g1 := hg.got
  have g2 := hg'.got
  rw [e5, g1] at g2
  injection g2 with _ g2
  injection g2 with a g2
  injection g2 with b c
  exact ⟨a.symm, b.symm, c.symm⟩
theorem getG_ne {b : List UInt8} (h : ∀ N l d, ¬ Good b N l d) : getG b = (3, 0, [], []) ∨ getG b = (9, 0, [], []) := by
  rcases getG_cases b with h1 | h1 | h1
  · exact .inl h1
  · exact .inr h1
  · exfalso
    obtain ⟨G, hG⟩ : ∃ G, getG b = G := ⟨_, rfl⟩
    obtain ⟨K, N, l, d⟩ := G
    rw [hG] at h1
    dsimp only at h1
    subst h1
    exact h N l d (getG_good hG)
theorem Good.flat {b : List UInt8} {N : Nat} {l : List Rk} {d : List (List UInt8)} (h : Good b N l d) : d.length ≤ l.length ∧ l.length ≤ 506 ∧ d.flatten.length ≤ b.length := by
  have h1 := (lenOk_iff _).1 h.hlo
  have h2 := rowOk_len h.hr
  refine ⟨?_, by omega, ?_⟩
  · rw [h.hd, cutL_len]; exact zerL_le l
  · rw [h.hd, cutL_flat (by rw [List.length_drop]; have := h.hlen; omega), List.length_take, List.length_drop]
    omega
theorem xor8t (x y : UInt8) : bits .xor .u8 (x.toNat : Int) (y.toNat : Int) = ((x ^^^ y).toNat : Int) := by
  rw [u8_xor_nat _ _ x.toNat_lt y.toNat_lt, UInt8.toNat_xor]
theorem run_one_u8 (w : World) (x : Int) : (Instr.buildSlice 31 1 #[(0, .int .u8 x)]).run Try.prog w = .ok (.slice (some ⟨w.heap.size, 0, none⟩) 1 1) (w.alloc (.cells #[.int .u8 x] 5)) := by
  obtain ⟨i0, hi, hz0, hz1, hz2⟩ := info_parts u8_info
  refine run_buildSlice w 31 5 1 _ _ i0 _ Try.underlying31 hi hz0 (by omega) (by omega) ?_
  rw [hz1]
  have e : Array.range (1 * 1) = #[0] := by decide
  rw [e]
  simp [Instr.fill, Value.cells]
theorem mayI_nat {n : Int} {l : List Rk} {d : List (List UInt8)} (h : mayI n l d = true) : ∃ N : Nat, n = (N : Int) ∧ 184 ≤ N := ⟨n.toNat, by
  unfold mayI at h
  rw [Bool.and_eq_true] at h
  have := (lenOk_iff n).1 h.1
  omega, by
  unfold mayI at h
  rw [Bool.and_eq_true] at h
  have := (lenOk_iff n).1 h.1
  omega⟩
theorem own_at {w : World} {base n c : Nat} {t : TypeId} {A : Option Addr} {xs : List Value} (h : w.ownsRow base t 1 (.slice A n c) n xs) (hn : 0 < n) : ∃ g, A = some ⟨g, 0, none⟩ ∧ n ≤ c ∧ c ≤ 9223372036854775807 ∧ g < w.heap.size ∧ base ≤ g := by
  rcases h.2 with ⟨_, h0⟩ | ⟨g, cap, cur, hv, hb, hg, h1, h2, _⟩
  · omega
  · injection hv with e1 _ e3
    subst e1 e3
    unfold maxLen at h2
    exact ⟨g, rfl, h1, h2, heap_lt1 hg, hb⟩
set_option maxRecDepth 100000 in
set_option maxHeartbeats 4000000 in
theorem ib_few (w : World) (n : Int) (_hn : -9223372036854775808 ≤ n ∧ n ≤ 9223372036854775807) (A1 : Option Addr) (k1 : Nat) (l : List Rk) (_hr : RkRd w w.heap.size A1 l) (hml : l.length ≤ maxLen) (A2 : Option Addr) (k2 : Nat) (d : List (List UInt8)) (hd : DtRd w w.heap.size A2 d) (hmd : d.length ≤ maxLen) (A3 : Option Addr) (k3 : Nat) (b : List UInt8) (_hrb : Rd w w.heap.size A3 b.length b) (_hnc : b.length ≤ k3) (_hk3 : k3 ≤ 9223372036854775807) (at_ : Int) (_hat : -9223372036854775808 ≤ at_ ∧ at_ ≤ 9223372036854775807) (by_ : Nat) (_hby : by_ < 4294967296) (cut : Int) (_hcut : -9223372036854775808 ≤ cut ∧ cut ≤ 9223372036854775807) (hf : fewI l d = false) :
    Calls Try.prog 5 #[.int .i64 n, .slice A1 l.length k1, .slice A2 d.length k2, .slice A3 b.length k3, .int .i64 at_, .int .u32 (by_ : Int), .int .i64 cut] w fun e w' => e = .returned (.bool true) ∧ Below w.heap.size w w' := by
  have HUP := Lib.hid (up15_any w)
  obtain ⟨v, hv⟩ : ∃ v : Int, (if fewI l d = true then (1 : Int) else 0) = v := ⟨_, rfl⟩
  have HFEW := Lib.hid (fun W (hb : Below w.heap.size w W) => few15_any W A1 A2 k1 k2 l d ((hd.below hb).more hb.size) hml hmd v hv)
  rw [hf] at hv
  obtain rfl : (0 : Int) = v := hv
  clear hf _hr hd hml hmd _hrb _hnc
  go_enter Try.func5, Try.ntmps5
  go_wp2_with fail
  refine HUP.out.mono ?_
  rintro e w1 ⟨rfl, hb1⟩
  have HB := Lib.hid hb1
  clear hb1 HUP
  go_wp2_with fail
  refine (HFEW.out w1 HB.out).mono ?_
  rintro e w2 ⟨rfl, rfl⟩
  go_wp2
  go_ret
  exact ⟨rfl, HB.out⟩
set_option maxRecDepth 100000 in
set_option maxHeartbeats 4000000 in
theorem ib_long (w : World) (n : Int) (_hn : -9223372036854775808 ≤ n ∧ n ≤ 9223372036854775807) (A1 : Option Addr) (k1 : Nat) (l : List Rk) (_hr : RkRd w w.heap.size A1 l) (hml : l.length ≤ maxLen) (A2 : Option Addr) (k2 : Nat) (d : List (List UInt8)) (hd : DtRd w w.heap.size A2 d) (hmd : d.length ≤ maxLen) (A3 : Option Addr) (k3 : Nat) (b : List UInt8) (_hrb : Rd w w.heap.size A3 b.length b) (_hnc : b.length ≤ k3) (_hk3 : k3 ≤ 9223372036854775807) (at_ : Int) (_hat : -9223372036854775808 ≤ at_ ∧ at_ ≤ 9223372036854775807) (by_ : Nat) (_hby : by_ < 4294967296) (cut : Int) (_hcut : -9223372036854775808 ≤ cut ∧ cut ≤ 9223372036854775807) (hf : fewI l d = true) (hl : 30000 < b.length) :
    Calls Try.prog 5 #[.int .i64 n, .slice A1 l.length k1, .slice A2 d.length k2, .slice A3 b.length k3, .int .i64 at_, .int .u32 (by_ : Int), .int .i64 cut] w fun e w' => e = .returned (.bool true) ∧ Below w.heap.size w w' := by
  have HUP := Lib.hid (up15_any w)
  obtain ⟨v, hv⟩ : ∃ v : Int, (if fewI l d = true then (1 : Int) else 0) = v := ⟨_, rfl⟩
  have HFEW := Lib.hid (fun W (hb : Below w.heap.size w W) => few15_any W A1 A2 k1 k2 l d ((hd.below hb).more hb.size) hml hmd v hv)
  rw [hf] at hv
  obtain rfl : (1 : Int) = v := hv
  obtain ⟨m, hm⟩ : ∃ m, b.length = m := ⟨_, rfl⟩
  rw [hm] at hl ⊢
  have g1 : decide (30000 < m) = true := decide_eq_true hl
  have g1' : decide ((30000 : Int) < (m : Int)) = true := decide_eq_true (by omega)
  clear hf _hr hd hml hmd _hrb _hnc hm
  go_enter Try.func5, Try.ntmps5
  go_wp2_with fail
  refine HUP.out.mono ?_
  rintro e w1 ⟨rfl, hb1⟩
  have HB := Lib.hid hb1
  clear hb1 HUP
  go_wp2_with fail
  refine (HFEW.out w1 HB.out).mono ?_
  rintro e w2 ⟨rfl, rfl⟩
  go_wp2
  go_ret
  exact ⟨rfl, HB.out⟩
set_option maxRecDepth 100000 in
set_option maxHeartbeats 4000000 in
theorem ib_good (w : World) (n : Int) (hn : -9223372036854775808 ≤ n ∧ n ≤ 9223372036854775807) (A1 : Option Addr) (k1 : Nat) (l : List Rk) (hr : RkRd w w.heap.size A1 l) (hml : l.length ≤ maxLen) (A2 : Option Addr) (k2 : Nat) (d : List (List UInt8)) (hd : DtRd w w.heap.size A2 d) (hmd : d.length ≤ maxLen) (A3 : Option Addr) (k3 : Nat) (b : List UInt8) (hrb : Rd w w.heap.size A3 b.length b) (hnc : b.length ≤ k3) (hk3 : k3 ≤ 9223372036854775807) (at_ : Int) (_hat : -9223372036854775808 ≤ at_ ∧ at_ ≤ 9223372036854775807) (by_ : Nat) (hby : by_ < 4294967296) (cut : Int) (_hcut : -9223372036854775808 ≤ cut ∧ cut ≤ 9223372036854775807) (hf : fewI l d = true) (hl : b.length ≤ 30000) (Ng : Nat) (lg : List Rk) (dg : List (List UInt8)) (hgood : Good b Ng lg dg) :
    Calls Try.prog 5 #[.int .i64 n, .slice A1 l.length k1, .slice A2 d.length k2, .slice A3 b.length k3, .int .i64 at_, .int .u32 (by_ : Int), .int .i64 cut] w fun e w' => e = .returned (.bool true) ∧ Below w.heap.size w w' := by
  have HUP := Lib.hid (up15_any w)
  obtain ⟨v, hv⟩ : ∃ v : Int, (if fewI l d = true then (1 : Int) else 0) = v := ⟨_, rfl⟩
  have HFEW := Lib.hid (fun W (hb : Below w.heap.size w W) => few15_any W A1 A2 k1 k2 l d ((hd.below hb).more hb.size) hml hmd v hv)
  rw [hf] at hv
  obtain rfl : (1 : Int) = v := hv
  obtain ⟨f1, f2, f3⟩ := fewI_parts hf
  have hbl : b.length ≤ 30000 := hl
  have HR := Lib.hid hr
  have HD := Lib.hid hd
  have HRB := Lib.hid hrb
  have HPM := Lib.hid (fun W (hb : Below w.heap.size w W) => immay_any W n hn A1 A2 k1 k2 l d ((hr.below hb).more hb.size) ((hd.below hb).more hb.size) (by omega) (by omega) _ rfl)
  have HPN := Lib.hid (fun W (hb : Below w.heap.size w W) => imput_no W n hn A1 A2 k1 k2 l d ((hr.below hb).more hb.size) ((hd.below hb).more hb.size) (by omega) (by omega))
  have HPO : Hid (∀ W, Below w.heap.size w W → ∀ N : Nat, n = (N : Int) → mayI n l d = true → Calls Try.prog 10 #[imV n A1 l.length k1 A2 d.length k2] W fun e w' => ∃ A c, e = .returned (.tuple #[.slice A (putB N l d).length c, .nilIface]) ∧ w'.ownsRow W.heap.size 5 1 (.slice A (putB N l d).length c) (putB N l d).length ((putB N l d).map bv) ∧ Below W.heap.size W w') := by
    intro W hb N hN hm
    subst hN
    exact imput_ok W N (by omega) A1 A2 k1 k2 l d ((hr.below hb).more hb.size) ((hd.below hb).more hb.size) (by omega) (by omega) (by omega) hm
  have HPG := Lib.hid (fun W (hb : Below w.heap.size w W) => imget_any W A3 b.length k3 w.heap.size b (hrb.below hb) hb.size hnc hk3 (by omega))
  have HLIKE := Lib.hid (fun W N A1 A2 a1 b1 a2 b2 => like_any W N A1 A2 a1 b1 a2 b2)
  have HDFL := Lib.hid f3
  obtain ⟨bl, hbln⟩ : ∃ bl, b.length = bl := ⟨_, rfl⟩
  have g1 : decide (30000 < bl) = false := decide_eq_false (by omega)
  have g1' : decide ((30000 : Int) < (bl : Int)) = false := decide_eq_false (by omega)
  have hG := hgood.got
  have eV : errV 0 = .nilIface := by unfold errV; rw [if_pos rfl]
  rw [hG] at HPG
  dsimp only at HPG
  rw [eV] at HPG
  obtain ⟨q1, q2, q3⟩ := hgood.flat
  obtain ⟨hput, hmay⟩ := hgood.put
  have hN1 := (lenOk_iff _).1 hgood.hlo
  have HPO1 : Hid (∀ W A1 A2 k1 k2, RkRd W W.heap.size A1 lg → DtRd W W.heap.size A2 dg → Calls Try.prog 10 #[imV (Ng : Int) A1 lg.length k1 A2 dg.length k2] W fun e w' => ∃ A c, e = .returned (.tuple #[.slice A b.length c, .nilIface]) ∧ w'.ownsRow W.heap.size 5 1 (.slice A b.length c) b.length (b.map bv) ∧ Below W.heap.size W w') := by
    intro W A1 A2 k1 k2 h1 h2
    have := imput_ok W Ng (by omega) A1 A2 k1 k2 lg dg h1 h2 (by omega) (by omega) (by omega) hmay
    rw [← hput] at this
    exact this
  have HPM1 : Hid (∀ W A1 A2 k1 k2, RkRd W W.heap.size A1 lg → DtRd W W.heap.size A2 dg → Calls Try.prog 11 #[imV (Ng : Int) A1 lg.length k1 A2 dg.length k2] W fun e w' => e = .returned (.bool true) ∧ Below W.heap.size W w') := by
    intro W A1 A2 k1 k2 h1 h2
    exact immay_any W Ng (by omega) A1 A2 k1 k2 lg dg h1 h2 (by omega) (by omega) true hmay
  obtain ⟨lgn, hlgn⟩ : ∃ lgn, lg.length = lgn := ⟨_, rfl⟩
  obtain ⟨dgn, hdgn⟩ : ∃ dgn, dg.length = dgn := ⟨_, rfl⟩
  rw [hbln, hlgn, hdgn] at HPO1
  rw [hlgn, hdgn] at HPM1
  rw [hbln, hlgn, hdgn] at HPG
  rw [hbln] at HRB
  unfold imV at HPO1 HPM1
  obtain ⟨S, hS⟩ : ∃ S, strB b = S := ⟨_, rfl⟩
  have HS := Lib.hid hS
  have gS : (S.toList != S.toList) = false := str_self S
  obtain ⟨ll, hll⟩ : ∃ ll, l.length = ll := ⟨_, rfl⟩
  obtain ⟨dl, hdll⟩ : ∃ dl, d.length = dl := ⟨_, rfl⟩
  rw [hll, hdll] at HFEW HPM HPN HPO
  rw [hll, hdll, hbln]
  unfold imV at HPM HPN HPO
  unfold imV at HLIKE
  have HFL : Hid (l.length = ll ∧ d.length = dl ∧ l.length ≤ 600 ∧ d.length ≤ 600) := ⟨hll, hdll, f1, f2⟩
  clear hf hr hd hml hmd hrb hnc hl hbl f1 f2 f3 hll hdll hbln hgood hG eV q1 q2 q3 hput hmay hN1 hlgn hdgn hS
  go_enter Try.func5, Try.ntmps5
  go_wp2_with fail
  refine HUP.out.mono ?_
  rintro e w1 ⟨rfl, hb1⟩
  have HB := Lib.hid hb1
  clear hb1 HUP
  go_wp2_with fail
  refine (HFEW.out w1 HB.out).mono ?_
  rintro e w2 ⟨rfl, rfl⟩
  go_wp2_with fail
  refine (HPG.out w1 HB.out).mono ?_
  rintro e w2 ⟨B1, B2, c1, c2, rfl, hrk, hdt, hb2⟩
  obtain ⟨w3, hw3⟩ : ∃ w3, w2.alloc (.cells #[.int .i64 (Ng : Int), .slice B1 lgn c1, .slice B2 dgn c2] 27) = w3 := ⟨_, rfl⟩
  have hb3 : Below w2.heap.size w2 w3 := by rw [← hw3]; exact (Below.refl _ _).alloc (Nat.le_refl _) _
  have n3 : w3.heap[w2.heap.size]? = some (.cells #[.int .i64 (Ng : Int), .slice B1 lgn c1, .slice B2 dgn c2] 27 (0, 0)) := by rw [← hw3]; exact heap_alloc_new w2 _
  have HRK := Lib.hid ((hrk.below hb3).more hb3.size)
  have HDT := Lib.hid ((hdt.below hb3).more hb3.size)
  have HB3 := Lib.hid (HB.out.trans ((hb2.trans (hb3.mono hb2.size)).mono HB.out.size))
  have HW3 := Lib.hid hw3
  have HN3 := Lib.hid n3
  obtain ⟨a0, a1, a2⟩ := rk_cells n3
  have la := heap_lt1 n3
  clear hrk hdt hb2 hb3 hw3 n3 HPG
  go_wp2_with (first | (rw [HW3.out]) | fail)
  refine (HPO1.out w3 B1 B2 c1 c2 HRK.out HDT.out).mono ?_
  rintro e w4 ⟨P4, k4, rfl, ho4, hb4⟩
  have HN4 := Lib.hid ((hb4.block _ (heap_lt1 HN3.out)).trans HN3.out)
  have HB4 := Lib.hid (HB3.out.trans (hb4.mono HB3.out.size))
  have HRD4 := Lib.hid (own_reads ho4)
  have HRB4 := Lib.hid (HRB.out.below HB4.out)
  have HRK4 := Lib.hid ((HRK.out.below hb4).more hb4.size)
  have HDT4 := Lib.hid ((HDT.out.below hb4).more hb4.size)
  clear a0 a1 a2 la hb4 ho4 HPO1
  obtain ⟨a0, a1, a2⟩ := rk_cells HN4.out
  have la := heap_lt1 HN4.out
  have qs1 : ∀ V : World, Below w4.heap.size w4 V → (convert 31 9 (.slice P4 bl k4)).run Try.prog V = .ok (.string S) V := fun V hV => by rw [← HS.out]; exact conv_rd (HRD4.out.below hV)
  have qs2 : ∀ V : World, Below w.heap.size w V → (convert 31 9 (.slice A3 bl k3)).run Try.prog V = .ok (.string S) V := fun V hV => by rw [← HS.out]; exact conv_rd (HRB.out.below hV)
  have qc1 := qs1 w4 (Below.refl _ _)
  have qc2 := qs2 w4 HB4.out
  clear qs1 qs2
  go_wp2_with fail
  refine (HPM1.out w4 B1 B2 c1 c2 HRK4.out HDT4.out).mono ?_
  rintro e wA ⟨rfl, hbA⟩
  have HBA := Lib.hid (HB4.out.trans (hbA.mono HB4.out.size))
  clear a0 a1 a2 la hbA qc1 qc2
  obtain ⟨wX, hwX⟩ : ∃ wX, wA.alloc (.cells #[.int .i64 n, .slice A1 ll k1, .slice A2 dl k2] 27) = wX := ⟨_, rfl⟩
  have hbX : Below wA.heap.size wA wX := by rw [← hwX]; exact (Below.refl _ _).alloc (Nat.le_refl _) _
  have nX : wX.heap[wA.heap.size]? = some (.cells #[.int .i64 n, .slice A1 ll k1, .slice A2 dl k2] 27 (0, 0)) := by rw [← hwX]; exact heap_alloc_new wA _
  have HBX := Lib.hid (HBA.out.trans (hbX.mono HBA.out.size))
  have HNX := Lib.hid nX
  have HWX := Lib.hid hwX
  obtain ⟨a0, a1, a2⟩ := rk_cells nX
  have la := heap_lt1 nX
  clear hwX hbX nX
  obtain ⟨y, hy⟩ : ∃ y, mayI n l d = y := ⟨_, rfl⟩
  rw [hy] at HPM
  have HY := Lib.hid hy
  clear hy
  cases y with
  | false =>
    go_wp2_with (first | (rw [HWX.out]) | fail)
    refine (HPN.out wX HBX.out HY.out).mono ?_
    rintro e w6 ⟨rfl, hb6⟩
    have n6 := (hb6.block _ (heap_lt1 HNX.out)).trans HNX.out
    have HB6 := Lib.hid (HBX.out.trans (hb6.mono HBX.out.size))
    clear a0 a1 a2 la hb6
    obtain ⟨a0, a1, a2⟩ := rk_cells n6
    have la := heap_lt1 n6
    clear n6
    go_wp2_with fail
    refine (HPM.out w6 HB6.out).mono ?_
    rintro e w7 ⟨rfl, hb7⟩
    have HB7 := Lib.hid (HB6.out.trans (hb7.mono HB6.out.size))
    clear hb7
    go_wp2
    go_ret
    exact ⟨rfl, HB7.out⟩
  | true =>
    obtain ⟨N0, hN0, hN184⟩ := mayI_nat HY.out
    have HPO2 := Lib.hid (HPO.out wX HBX.out N0 hN0 HY.out)
    subst hN0
    have hgp := putB_good HY.out
    have hpl := putB_len N0 l d
    obtain ⟨P, hP⟩ : ∃ P, putB N0 l d = P := ⟨_, rfl⟩
    rw [hP] at HPO2 hgp
    have HGP := Lib.hid hgp
    have hpb : 40 ≤ P.length ∧ P.length ≤ 100000 := by
      have h1 := hgp.flat
      have h2 := hgp.hlen
      have h3 := datOk_held (show datOk l d = true by have := HY.out; unfold mayI at this; simp only [Bool.and_eq_true] at this; exact this.2.2) (rowOk_sz hgp.hr)
      have := HDFL.out
      omega
    have hgot := hgp.got
    obtain ⟨pn, hpn⟩ : ∃ pn, P.length = pn := ⟨_, rfl⟩
    rw [hpn] at HPO2 hpb
    have HPNN := Lib.hid hpn
    have hget : ∀ W A nn cc bs, Rd W W.heap.size A nn bs → nn ≤ cc → cc ≤ 9223372036854775807 → nn ≤ 900000 → _ := fun W A nn cc bs h1 h2 h3 h4 => imget_any W A nn cc W.heap.size bs h1 (Nat.le_refl _) h2 h3 h4
    have HGET := Lib.hid hget
    have eV0 : errV 0 = .nilIface := by unfold errV; rw [if_pos rfl]
    have HG1 : Hid (∀ W A cc, Rd W W.heap.size A pn P → pn ≤ cc → cc ≤ 9223372036854775807 → Calls Try.prog 14 #[.slice A pn cc] W fun e w' => ∃ A1 A2 c1 c2, e = .returned (.tuple #[.agg #[.int .i64 (N0 : Int), .slice A1 ll c1, .slice A2 dl c2], .nilIface]) ∧ RkRd w' w'.heap.size A1 l ∧ DtRd w' w'.heap.size A2 d ∧ Below W.heap.size W w') := fun W A cc h1 h2 h3 => by
      have h := HGET.out W A pn cc P h1 h2 h3 (by omega)
      rw [hgot] at h
      dsimp only at h
      rw [eV0, HFL.out.1, HFL.out.2.1] at h
      exact h
    have HG0 : Hid (∀ W A nn cc bs, Rd W W.heap.size A nn bs → nn ≤ cc → cc ≤ 9223372036854775807 → nn ≤ 900000 → (∀ N l d, ¬ Good bs N l d) → Calls Try.prog 14 #[.slice A nn cc] W fun e w' => ∃ A1 A2 c1 c2, ∃ K : Nat, e = .returned (.tuple #[.agg #[.int .i64 0, .slice A1 0 c1, .slice A2 0 c2], .iface 52 (.int .i64 (K : Int))]) ∧ Below W.heap.size W w') := fun W A nn cc bs h1 h2 h3 h4 h5 => by
      refine (HGET.out W A nn cc bs h1 h2 h3 h4).mono ?_
      rintro e w' ⟨A1, A2, c1, c2, he, _, _, hb⟩
      rcases getG_ne h5 with h | h
      · rw [h] at he
        exact ⟨A1, A2, c1, c2, 3, he, hb⟩
      · rw [h] at he
        exact ⟨A1, A2, c1, c2, 9, he, hb⟩
    clear hgp hpl hP hgot hpn hget eV0
    go_wp2_with (first | (rw [HWX.out]) | fail)
    refine HPO2.out.mono ?_
    rintro e w6 ⟨A6, k6, rfl, ho6, hb6⟩
    obtain ⟨g6, rfl, hk6, hk6m, hg6, hg6b⟩ := own_at ho6 (by omega)
    have HO6 := Lib.hid ho6
    have HB6 := Lib.hid (HBX.out.trans (hb6.mono HBX.out.size))
    have HN6 := Lib.hid ((hb6.block _ (heap_lt1 HNX.out)).trans HNX.out)
    have hG := HG1.out w6 (some ⟨g6, 0, none⟩) k6 (own_reads ho6) hk6 hk6m
    have HG := Lib.hid hG
    have hg6x : wA.heap.size < g6 := Nat.lt_of_lt_of_le (heap_lt1 HNX.out) hg6b
    have hg6w : w.heap.size ≤ g6 := Nat.le_trans HBX.out.size hg6b
    clear hG ho6 hb6 a0 a1 a2 la HPO2 hg6
    go_wp2_with fail
    refine HG.out.mono ?_
    rintro e w7 ⟨Y1, Y2, y1, y2, rfl, hrk, hdt, hb7⟩
    obtain ⟨w8, hw8⟩ : ∃ w8, w7.alloc (.cells #[.int .i64 (N0 : Int), .slice Y1 ll y1, .slice Y2 dl y2] 27) = w8 := ⟨_, rfl⟩
    have hb8 : Below w7.heap.size w7 w8 := by rw [← hw8]; exact (Below.refl _ _).alloc (Nat.le_refl _) _
    have n8 : w8.heap[w7.heap.size]? = some (.cells #[.int .i64 (N0 : Int), .slice Y1 ll y1, .slice Y2 dl y2] 27 (0, 0)) := by rw [← hw8]; exact heap_alloc_new w7 _
    obtain ⟨wd, hwd⟩ : ∃ wd, w8.drew = wd := ⟨_, rfl⟩
    have hbd : Below w8.heap.size w8 wd := by rw [← hwd]; exact (Below.refl _ _).drew
    have hb78 := hb8.trans (hbd.mono hb8.size)
    have hb6d := hb7.trans (hb78.mono hb7.size)
    have HYK := Lib.hid ((hrk.below hb78).more hb78.size)
    have HYD := Lib.hid ((hdt.below hb78).more hb78.size)
    have HBD := Lib.hid (HB6.out.trans (hb6d.mono HB6.out.size))
    have HXK := Lib.hid ((HR.out.below HBD.out).more HBD.out.size)
    have HXD := Lib.hid ((HD.out.below HBD.out).more HBD.out.size)
    have HOD := Lib.hid (own_stay HO6.out hb6d (own_lt HO6.out))
    have HXN := Lib.hid ((hb6d.block _ (heap_lt1 HN6.out)).trans HN6.out)
    have HYN := Lib.hid ((hbd.block _ (heap_lt1 n8)).trans n8)
    have HW8 := Lib.hid hw8
    have HWD := Lib.hid hwd
    obtain ⟨a0, a1, a2⟩ := rk_cells HXN.out
    obtain ⟨b0, b1, b2⟩ := rk_cells HYN.out
    have la := heap_lt1 HXN.out
    have lb := heap_lt1 HYN.out
    clear hrk hdt hb7 hw8 hb8 n8 hwd hbd hb78 hb6d HO6 HN6 HG
    go_wp2_with (first | (rw [HW8.out]) | fail)
    refine wp_region_tail wd.heap.size [([0, 2], 1), ([], 3), ([], 4)] [] [5] (by kernel_rfl) (by kernel_rfl) (by kernel_rfl) (fun _ _ _ _ _ h => h) ?_
    rw [HWD.out]
    have qa0 : ∀ z : LaterB wd.heap.size wd, z.val.cell? ⟨wA.heap.size, 0, none⟩ = some (.int .i64 (N0 : Int)) := fun z => (z.ext.cell (p := ⟨wA.heap.size, 0, none⟩) la).trans a0
    have qa1 : ∀ z : LaterB wd.heap.size wd, z.val.cell? ⟨wA.heap.size, 1, none⟩ = some (.slice A1 ll k1) := fun z => (z.ext.cell (p := ⟨wA.heap.size, 1, none⟩) la).trans a1
    have qa2 : ∀ z : LaterB wd.heap.size wd, z.val.cell? ⟨wA.heap.size, 2, none⟩ = some (.slice A2 dl k2) := fun z => (z.ext.cell (p := ⟨wA.heap.size, 2, none⟩) la).trans a2
    have qb0 : ∀ z : LaterB wd.heap.size wd, z.val.cell? ⟨w7.heap.size, 0, none⟩ = some (.int .i64 (N0 : Int)) := fun z => (z.ext.cell (p := ⟨w7.heap.size, 0, none⟩) lb).trans b0
    have qb1 : ∀ z : LaterB wd.heap.size wd, z.val.cell? ⟨w7.heap.size, 1, none⟩ = some (.slice Y1 ll y1) := fun z => (z.ext.cell (p := ⟨w7.heap.size, 1, none⟩) lb).trans b1
    have qb2 : ∀ z : LaterB wd.heap.size wd, z.val.cell? ⟨w7.heap.size, 2, none⟩ = some (.slice Y2 dl y2) := fun z => (z.ext.cell (p := ⟨w7.heap.size, 2, none⟩) lb).trans b2
    refine tail_cons (l := ?segA) ?hsegA ?_
    case hsegA => simp only [pick, List.getElem?_toArray, List.getElem?_cons_succ, List.getElem?_cons_zero]; rfl
    repeat (go_big_quiet_step (fail))
    refine wpQuiet_nil ?_
    clear qa0 qa1 qa2 qb0 qb1 qb2
    refine tail_call2 (vs := #[.agg #[.int .i64 (N0 : Int), .slice Y1 ll y1, .slice Y2 dl y2]]) Try.call9 rfl rfl rfl (R := fun r w' => r = .agg #[.int .i64 (N0 : Int), .slice Y1 ll y1, .slice Y2 dl y2] ∧ Below wd.heap.size wd w') ((HLIKE.out wd (N0 : Int) Y1 Y2 ll y1 dl y2).mono ?_) ?_
    · rintro e w' ⟨rfl, hb⟩
      exact ⟨_, rfl, hb, rfl, hb⟩
    rintro r w9 _ ⟨rfl, hb9⟩
    refine ⟨w9.heap.size, hb9.size, ?_⟩
    simp only [Act.put, List.setIfInBounds_toArray, List.set_cons_zero, List.set_cons_succ]
    refine tail_cons (l := []) rfl (wpQuiet_nil ?_)
    refine tail_call2 (vs := #[.agg #[.int .i64 (N0 : Int), .slice A1 ll k1, .slice A2 dl k2]]) Try.call9 rfl rfl rfl (R := fun r w' => r = .agg #[.int .i64 (N0 : Int), .slice A1 ll k1, .slice A2 dl k2] ∧ Below w9.heap.size w9 w') ((HLIKE.out w9 (N0 : Int) A1 A2 ll k1 dl k2).mono ?_) ?_
    · rintro e w' ⟨rfl, hb⟩
      exact ⟨_, rfl, hb, rfl, hb⟩
    rintro r w10 _ ⟨rfl, hb10⟩
    refine ⟨w10.heap.size, hb10.size, ?_⟩
    have hbd10 := hb9.trans (hb10.mono hb9.size)
    have hS1 := rsame_eq w10 (N0 : Int) Y1 Y2 A1 A2 y1 y2 k1 k2 l d ((HYK.out.below hbd10).more hbd10.size) ((HYD.out.below hbd10).more hbd10.size) ((HXK.out.below hbd10).more hbd10.size) ((HXD.out.below hbd10).more hbd10.size) (by have := HFL.out; omega) (by have := HFL.out; omega)
    rw [HFL.out.1, HFL.out.2.1] at hS1
    unfold imV at hS1
    have HB10 := Lib.hid (HBD.out.trans (hbd10.mono HBD.out.size))
    have HO10 := Lib.hid (own_stay HOD.out hbd10 (own_lt HOD.out))
    have HXN10 := Lib.hid ((hbd10.block _ (heap_lt1 HXN.out)).trans HXN.out)
    clear hb9 hb10 hbd10 a0 a1 a2 b0 b1 b2 la lb HYK HYD HXK HXD HYN HXN HOD
    simp only [Act.put, List.setIfInBounds_toArray, List.set_cons_zero, List.set_cons_succ]
    refine tail_cons (l := []) rfl (wpQuiet_nil ?_)
    refine tail_call2 (vs := #[.agg #[.int .i64 (N0 : Int), .slice Y1 ll y1, .slice Y2 dl y2], .agg #[.int .i64 (N0 : Int), .slice A1 ll k1, .slice A2 dl k2]]) Try.call16 rfl rfl rfl (R := fun r w' => r = .bool true ∧ Below w10.heap.size w10 w') (hS1.mono ?_) ?_
    · rintro e w' ⟨rfl, hb⟩
      exact ⟨_, rfl, hb, rfl, hb⟩
    rintro r w11 _ ⟨rfl, hb11⟩
    refine ⟨w11.heap.size, hb11.size, ?_⟩
    have HB11 := Lib.hid (HB10.out.trans (hb11.mono HB10.out.size))
    have ho11 := own_stay HO10.out hb11 (own_lt HO10.out)
    have hxn11 := (hb11.block _ (heap_lt1 HXN10.out)).trans HXN10.out
    clear hb11 hS1 HO10 HXN10
    simp only [Act.put, List.setIfInBounds_toArray, List.set_cons_zero, List.set_cons_succ]
    refine tail_last (l := []) (t := ?tailB) rfl ?htailB ?_
    case htailB => simp only [pick, List.getElem?_toArray, List.getElem?_cons_succ, List.getElem?_cons_zero]; rfl
    refine wpQuiet_nil ?_
    obtain ⟨w12, hw12⟩ : ∃ w12, w11.alloc (.cells #[] 5) = w12 := ⟨_, rfl⟩
    have hb12 : Below w11.heap.size w11 w12 := by rw [← hw12]; exact (Below.refl _ _).alloc (Nat.le_refl _) _
    have HOE := Lib.hid (show w12.ownsRow w11.heap.size 5 1 (.slice (some ⟨w11.heap.size, 0, none⟩) 0 0) 0 (([] : List UInt8).map bv) by rw [← hw12]; exact World.ownsRow_lit w11 _ 0 (Nat.le_refl _) (by unfold maxLen; omega) rfl)
    have HO12 := Lib.hid (own_stay ho11 hb12 (own_lt ho11))
    have HX12 := Lib.hid ((hb12.block _ (heap_lt1 hxn11)).trans hxn11)
    have HRD12 := Lib.hid (own_reads HO12.out)
    have HW12 := Lib.hid hw12
    have HO11 := Lib.hid ho11
    have HX11 := Lib.hid hxn11
    have HB12 := Lib.hid hb12
    have hs12 := hb12.size
    clear hw12 hb12 ho11 hxn11
    go_wp2_with (first
      | (rw [HW12.out])
      | (at_builtin; (refine append_bytes rfl (.tmp 100) (.tmp 101) 31 5 rfl Try.underlying31 u8_info w11.heap.size (.slice (some ⟨w11.heap.size, 0, none⟩) 0 0) 0 [] rfl HOE.out w12.heap.size (some ⟨g6, 0, none⟩) pn k6 P rfl HRD12.out (fun e => by cases e) (by omega) hs12 ?_); intro x13 w13 own13 hb13 gr13;
         have OWN13 : Hid (w13.ownsRow w11.heap.size 5 1 x13 pn (P.map bv)) := (show World.ownsRow _ _ _ _ _ _ _ by simpa using own13);
         have hb13' := HB12.out.trans hb13; have HB13 := Lib.hid hb13'; have hs13 := hb13'.size;
         have hbz : Below w13.heap.size w13 (w13.alloc (.cells #[.int .u8 0] 5)) := (Below.refl _ _).alloc (Nat.le_refl _) _;
         have HBZ := Lib.hid (hb13'.trans (hbz.mono hs13)); have hsz := HBZ.out.size;
         have HOZ := Lib.hid (own_stay OWN13.out hbz (own_lt OWN13.out));
         have HRZ : Hid (Rd (w13.alloc (.cells #[.int .u8 0] 5)) (w13.alloc (.cells #[.int .u8 0] 5)).heap.size (some ⟨w13.heap.size, 0, none⟩) 1 [0]) := (show Rd _ _ _ _ _ from own_reads (show World.ownsRow _ w13.heap.size _ _ _ _ _ from World.ownsRow_lit w13 #[.int .u8 0] 1 (Nat.le_refl _) (by unfold maxLen; omega) rfl));
         clear own13 hb13 hb13' hbz gr13)
      | (at_builtin; (refine append_bytes rfl (.tmp 102) (.tmp 103) 31 5 rfl Try.underlying31 u8_info w11.heap.size _ pn P rfl HOZ.out (w13.alloc (.cells #[.int .u8 0] 5)).heap.size (some ⟨w13.heap.size, 0, none⟩) 1 1 [0] rfl HRZ.out (fun e => by cases e) (by omega) hsz ?_); intro x15 w15 own15 hb15 gr15;
         have OWN15 := Lib.hid own15; have HB15 := Lib.hid (HBZ.out.trans hb15);
         clear own15 hb15 gr15)
      | fail)
    obtain ⟨A15, c15, rfl, _⟩ := own_slc OWN15.out
    obtain ⟨g15, rfl, hc15, hc15m, _, _⟩ := own_at OWN15.out (by omega)
    have hG15 := HG0.out w15 (some ⟨g15, 0, none⟩) (pn + 1) c15 (P ++ [0]) (own_reads OWN15.out) hc15 hc15m (by omega) (fun N l d h => by have := HGP.out.alone h; simp at this)
    have HG15 := Lib.hid hG15
    have HB15' := Lib.hid (HB11.out.trans (HB15.out.mono HB11.out.size))
    have HO15 := Lib.hid (own_stay HO11.out HB15.out (own_lt HO11.out))
    have HX15 := Lib.hid ((HB15.out.block _ (heap_lt1 HX11.out)).trans HX11.out)
    clear hG15 OWN13 HB13 HBZ HOZ HRZ OWN15 hs13 hsz hs12 HOE
    go_wp2_with fail
    refine HG15.out.mono ?_
    rintro e w16 ⟨Z1, Z2, z1, z2, K1, rfl, hb16⟩
    obtain ⟨w17, hw17⟩ : ∃ w17, w16.alloc (.cells #[.int .i64 0, .slice Z1 0 z1, .slice Z2 0 z2] 27) = w17 := ⟨_, rfl⟩
    have hb17 : Below w16.heap.size w16 w17 := by rw [← hw17]; exact (Below.refl _ _).alloc (Nat.le_refl _) _
    have hb157 := hb16.trans (hb17.mono hb16.size)
    have HB17 := Lib.hid (HB15'.out.trans (hb157.mono HB15'.out.size))
    have HO17 := Lib.hid (own_stay HO15.out hb157 (own_lt HO15.out))
    have HX17 := Lib.hid ((hb157.block _ (heap_lt1 HX15.out)).trans HX15.out)
    have HW17 := Lib.hid hw17
    clear hw17 hb16 hb17 hb157 HG15 HO15
    obtain ⟨pc, hpc⟩ : ∃ pc, (cut % (pn : Int)).toNat = pc := ⟨_, rfl⟩
    have hpcl : pc < pn := by have h1 := Int.emod_nonneg cut (b := (pn : Int)) (by omega); have h2 := Int.emod_lt_of_pos cut (b := (pn : Int)) (by omega); omega
    have HPK := Lib.hid (lpick_any cut pn w17 (by omega) (by omega) pc hpc)
    have hgpc : (pc : Int) ≤ (k6 : Int) := by omega
    have hRC := (own_reads HO17.out).sub 0 pc (by omega)
    rw [Nat.add_zero, List.drop_zero] at hRC
    have hG17 := HG0.out w17 (some ⟨g6, 0, none⟩) pc k6 (P.take pc) hRC (by omega) hk6m (by omega) (fun N l d h => by
      have h2 := HGP.out
      rw [← List.take_append_drop pc P] at h2
      have h3 := h.alone h2
      have h4 := congrArg List.length h3
      rw [List.length_drop, HPNN.out] at h4
      simp at h4
      omega)
    have HG17 := Lib.hid hG17
    clear hpc hRC hG17
    go_wp2_with (first | (rw [HW17.out]) | fail)
    refine HPK.out.mono ?_
    rintro e wq ⟨rfl, rfl⟩
    go_wp2_with fail
    refine HG17.out.mono ?_
    rintro e w18 ⟨U1, U2, u1, u2, K2, rfl, hb18⟩
    obtain ⟨w19, hw19⟩ : ∃ w19, w18.alloc (.cells #[.int .i64 0, .slice U1 0 u1, .slice U2 0 u2] 27) = w19 := ⟨_, rfl⟩
    have hb19 : Below w18.heap.size w18 w19 := by rw [← hw19]; exact (Below.refl _ _).alloc (Nat.le_refl _) _
    have hb179 := hb18.trans (hb19.mono hb18.size)
    have HB19 := Lib.hid (HB17.out.trans (hb179.mono HB17.out.size))
    have HO19 := Lib.hid (own_stay HO17.out hb179 (own_lt HO17.out))
    have HX19 := Lib.hid ((hb179.block _ (heap_lt1 HX17.out)).trans HX17.out)
    have HW19 := Lib.hid hw19
    clear hw19 hb18 hb19 hb179 HG17 HO17 HPK
    obtain ⟨pk, hpk⟩ : ∃ pk, (at_ % ((pn - 3 : Nat) : Int)).toNat = pk := ⟨_, rfl⟩
    have hpkl : pk + 4 ≤ pn := by have h1 := Int.emod_nonneg at_ (b := ((pn - 3 : Nat) : Int)) (by omega); have h2 := Int.emod_lt_of_pos at_ (b := ((pn - 3 : Nat) : Int)) (by omega); omega
    have HPK := Lib.hid (lpick_any at_ (pn - 3) w19 (by omega) (by omega) pk hpk)
    obtain ⟨p3, hp3⟩ : ∃ p3, pn - 3 = p3 := ⟨_, rfl⟩
    rw [hp3] at HPK
    have hi3 : (pn : Int) - 3 = (p3 : Int) := by omega
    clear hpk hp3
    go_wp2_with (first | (rw [HW19.out]) | fail)
    refine HPK.out.mono ?_
    rintro e wq ⟨rfl, rfl⟩
    have HT0 : Hid (turn4 pk P P) := ⟨rfl, fun _ _ => rfl⟩
    have hnl : ∀ x : Nat, ((x : Int) % 256) = ((x % 256 : Nat) : Int) := fun x => by omega
    go_wp2_with fail
    go_loopw [5, 31] (fun q t W => ∃ (x j : Nat) (bs' : List UInt8), q = .int .u32 (x : Int) ∧ t = .int .i64 (j : Int) ∧ x < 4294967296 ∧ j ≤ 4 ∧ turn4 pk P bs' ∧ W.ownsRow wX.heap.size 5 1 (.slice (some ⟨g6, 0, none⟩) pn k6) pn (bs'.map bv) ∧ W.heap[wA.heap.size]? = some (.cells #[.int .i64 (N0 : Int), .slice A1 ll k1, .slice A2 dl k2] 27 (0, 0)) ∧ Below w.heap.size w W) (fun _ t _ => 4 - (intOf t).toNat)
    case atStart => exact ⟨by_, 0, P, rfl, rfl, hby, by omega, HT0.out, HO19.out, HX19.out, HB19.out⟩
    case round =>
      obtain ⟨x, j, bs', rfl, rfl, hx, hj, ht4, hown, hxw, hb⟩ := hrel
      by_cases hlt : j < 4
      · have hbl' : bs'.length = pn := by rw [ht4.1]; exact HPNN.out
        obtain ⟨u, hu⟩ : ∃ u, bs'[pk + j]? = some u := ⟨bs'[pk + j]'(by omega), List.getElem?_eq_getElem _⟩
        have c0 : wr.cell? ⟨g6, pk + j, none⟩ = some (.int .u8 (u.toNat : Int)) := by
          rw [hown.cellAt (pk + j) (by omega), List.getElem?_map, hu]; rfl
        have f0 := hown.frozenAt (pk + j)
        have lg := hown.lt g6 rfl
        have lg2 := lg.2
        have hi1 : (pk : Int) + (j : Int) < (pn : Int) := by omega
        obtain ⟨tb, htb⟩ : ∃ tb : UInt8, tb.toNat = x % 256 := ⟨UInt8.ofNat (x % 256), by simp⟩
        have hm1 : (x : Int) % 256 = (tb.toNat : Int) := by omega
        have hml := tb.toNat_lt
        have hx0 := xor8t u tb
        obtain ⟨zb, hzb⟩ : ∃ zb, u ^^^ tb = zb := ⟨_, rfl⟩
        rw [hzb] at hx0
        have hx8 := hx0
        have hcv : ∀ W : World, (convert 46 5 (.int .u32 (x : Int))).run Try.prog W = .ok (.int .u8 (tb.toNat : Int)) W := fun W => by
          rw [← hm1]
          rfl
        have hst := (hown.stored (pk + j) (bv zb)).1
        rw [← List.map_set] at hst
        have HST := Lib.hid (show (wr.setCell ⟨g6, pk + j, none⟩ (.int .u8 (zb.toNat : Int))).ownsRow _ _ _ _ _ _ from hst)
        have HXS : Hid ((wr.setCell ⟨g6, pk + j, none⟩ (.int .u8 (zb.toNat : Int))).heap[wA.heap.size]? = some (.cells #[.int .i64 (N0 : Int), .slice A1 ll k1, .slice A2 dl k2] 27 (0, 0))) := (heap_setCell_other _ _ _ _ (fun e => by have : wA.heap.size = g6 := e; omega)).trans hxw
        have HBS := Lib.hid (hb.setCell (p := ⟨g6, pk + j, none⟩) hg6w (.int .u8 (zb.toNat : Int)))
        have HT4 : Hid (turn4 pk P (bs'.set (pk + j) zb)) := ⟨by rw [List.length_set]; exact ht4.1, fun i hi => by
          rw [List.getElem?_set_ne (by omega)]
          exact ht4.2 i hi⟩
        clear hown hb hxw ht4 htb hst hbl' hu hzb hx0 hm1
        go_wp2_with fail
        go_roundw
        case rel => exact ⟨x / 256, j + 1, _, by go_num, by go_num, by omega, by omega, HT4.out, HST.out, HXS.out, HBS.out⟩
        case measure => simp only [intOf]; omega
      · obtain rfl : j = 4 := by omega
        have HBF := Lib.hid hb
        have HXF := Lib.hid hxw
        have hbl' : bs'.length = pn := by rw [ht4.1]; exact HPNN.out
        have hrd := own_reads hown
        have htg := fun N' l' d' (h : Good bs' N' l' d') => turn4_good (by rw [HPNN.out]; exact hpkl) ht4 HGP.out h
        by_cases hgb : ∃ N' l' d', Good bs' N' l' d'
        · obtain ⟨N', l', d', hg'⟩ := hgb
          obtain ⟨e1, e2, e3⟩ := htg N' l' d' hg'
          obtain rfl := e1.symm
          obtain rfl := e2.symm
          obtain rfl := e3.symm
          have hG := HGET.out wr (some ⟨g6, 0, none⟩) pn k6 bs' hrd hk6 hk6m (by omega)
          rw [hg'.got] at hG
          dsimp only at hG
          rw [show errV 0 = .nilIface from by unfold errV; rw [if_pos rfl], HFL.out.1, HFL.out.2.1] at hG
          have HG := Lib.hid hG
          clear hG htg hrd hown hb hxw ht4 hg' HPN HPO HG1 HG0 HGET HGP
          go_wp2_with fail
          refine HG.out.mono ?_
          rintro e w20 ⟨Z5, Z6, z5, z6, rfl, hrk, hdt, hb7⟩
          obtain ⟨w21, hw21⟩ : ∃ w21, w20.alloc (.cells #[.int .i64 (N0 : Int), .slice Z5 ll z5, .slice Z6 dl z6] 27) = w21 := ⟨_, rfl⟩
          have hb21 : Below w20.heap.size w20 w21 := by rw [← hw21]; exact (Below.refl _ _).alloc (Nat.le_refl _) _
          have n21 : w21.heap[w20.heap.size]? = some (.cells #[.int .i64 (N0 : Int), .slice Z5 ll z5, .slice Z6 dl z6] 27 (0, 0)) := by rw [← hw21]; exact heap_alloc_new w20 _
          obtain ⟨wd, hwd⟩ : ∃ wd, w21.drew = wd := ⟨_, rfl⟩
          have hbd : Below w21.heap.size w21 wd := by rw [← hwd]; exact (Below.refl _ _).drew
          have hb2d := hb21.trans (hbd.mono hb21.size)
          have hbrd := hb7.trans (hb2d.mono hb7.size)
          have HYK := Lib.hid ((hrk.below hb2d).more hb2d.size)
          have HYD := Lib.hid ((hdt.below hb2d).more hb2d.size)
          have HBD := Lib.hid (HBF.out.trans (hbrd.mono HBF.out.size))
          have hbw := HBD.out
          have HXK := Lib.hid ((HR.out.below hbw).more hbw.size)
          have HXD := Lib.hid ((HD.out.below hbw).more hbw.size)
          have HXN := Lib.hid ((hbrd.block _ (heap_lt1 HXF.out)).trans HXF.out)
          have HYN := Lib.hid ((hbd.block _ (heap_lt1 n21)).trans n21)
          have HW21 := Lib.hid hw21
          have HWD := Lib.hid hwd
          obtain ⟨a0, a1, a2⟩ := rk_cells HXN.out
          obtain ⟨b0, b1, b2⟩ := rk_cells HYN.out
          have la := heap_lt1 HXN.out
          have lb := heap_lt1 HYN.out
          clear hrk hdt hb7 hw21 hb21 n21 hwd hbd hb2d hbrd HG
          go_wp2_with (first | (rw [HW21.out]) | fail)
          refine wp_region_tail wd.heap.size [([0, 2], 1), ([], 3), ([], 4)] [] [5] (by kernel_rfl) (by kernel_rfl) (by kernel_rfl) (fun _ _ _ _ _ h => h) ?_
          rw [HWD.out]
          have qa0 : ∀ z : LaterB wd.heap.size wd, z.val.cell? ⟨wA.heap.size, 0, none⟩ = some (.int .i64 (N0 : Int)) := fun z => (z.ext.cell (p := ⟨wA.heap.size, 0, none⟩) la).trans a0
          have qa1 : ∀ z : LaterB wd.heap.size wd, z.val.cell? ⟨wA.heap.size, 1, none⟩ = some (.slice A1 ll k1) := fun z => (z.ext.cell (p := ⟨wA.heap.size, 1, none⟩) la).trans a1
          have qa2 : ∀ z : LaterB wd.heap.size wd, z.val.cell? ⟨wA.heap.size, 2, none⟩ = some (.slice A2 dl k2) := fun z => (z.ext.cell (p := ⟨wA.heap.size, 2, none⟩) la).trans a2
          have qb0 : ∀ z : LaterB wd.heap.size wd, z.val.cell? ⟨w20.heap.size, 0, none⟩ = some (.int .i64 (N0 : Int)) := fun z => (z.ext.cell (p := ⟨w20.heap.size, 0, none⟩) lb).trans b0
          have qb1 : ∀ z : LaterB wd.heap.size wd, z.val.cell? ⟨w20.heap.size, 1, none⟩ = some (.slice Z5 ll z5) := fun z => (z.ext.cell (p := ⟨w20.heap.size, 1, none⟩) lb).trans b1
          have qb2 : ∀ z : LaterB wd.heap.size wd, z.val.cell? ⟨w20.heap.size, 2, none⟩ = some (.slice Z6 dl z6) := fun z => (z.ext.cell (p := ⟨w20.heap.size, 2, none⟩) lb).trans b2
          refine tail_cons (l := ?segE) ?hsegE ?_
          case hsegE => simp only [pick, List.getElem?_toArray, List.getElem?_cons_succ, List.getElem?_cons_zero]; rfl
          repeat (go_big_quiet_step (fail))
          refine wpQuiet_nil ?_
          clear qa0 qa1 qa2 qb0 qb1 qb2
          refine tail_call2 (vs := #[.agg #[.int .i64 (N0 : Int), .slice Z5 ll z5, .slice Z6 dl z6]]) Try.call9 rfl rfl rfl (R := fun r w' => r = .agg #[.int .i64 (N0 : Int), .slice Z5 ll z5, .slice Z6 dl z6] ∧ Below wd.heap.size wd w') ((HLIKE.out wd (N0 : Int) Z5 Z6 ll z5 dl z6).mono ?_) ?_
          · rintro e w' ⟨rfl, hb⟩
            exact ⟨_, rfl, hb, rfl, hb⟩
          rintro r w22 _ ⟨rfl, hb22⟩
          refine ⟨w22.heap.size, hb22.size, ?_⟩
          simp only [Act.put, List.setIfInBounds_toArray, List.set_cons_zero, List.set_cons_succ]
          refine tail_cons (l := []) rfl (wpQuiet_nil ?_)
          refine tail_call2 (vs := #[.agg #[.int .i64 (N0 : Int), .slice A1 ll k1, .slice A2 dl k2]]) Try.call9 rfl rfl rfl (R := fun r w' => r = .agg #[.int .i64 (N0 : Int), .slice A1 ll k1, .slice A2 dl k2] ∧ Below w22.heap.size w22 w') ((HLIKE.out w22 (N0 : Int) A1 A2 ll k1 dl k2).mono ?_) ?_
          · rintro e w' ⟨rfl, hb⟩
            exact ⟨_, rfl, hb, rfl, hb⟩
          rintro r w23 _ ⟨rfl, hb23⟩
          refine ⟨w23.heap.size, hb23.size, ?_⟩
          have hbd23 := hb22.trans (hb23.mono hb22.size)
          have hS1 := rsame_eq w23 (N0 : Int) Z5 Z6 A1 A2 z5 z6 k1 k2 l d ((HYK.out.below hbd23).more hbd23.size) ((HYD.out.below hbd23).more hbd23.size) ((HXK.out.below hbd23).more hbd23.size) ((HXD.out.below hbd23).more hbd23.size) (by have := HFL.out; omega) (by have := HFL.out; omega)
          rw [HFL.out.1, HFL.out.2.1] at hS1
          unfold imV at hS1
          clear HYK HYD HXK HXD
          have HB23 := Lib.hid (HBD.out.trans (hbd23.mono HBD.out.size))
          clear hb22 hb23 hbd23 a0 a1 a2 b0 b1 b2 la lb HYN HXN
          simp only [Act.put, List.setIfInBounds_toArray, List.set_cons_zero, List.set_cons_succ]
          refine tail_cons (l := []) rfl (wpQuiet_nil ?_)
          refine tail_call2 (vs := #[.agg #[.int .i64 (N0 : Int), .slice Z5 ll z5, .slice Z6 dl z6], .agg #[.int .i64 (N0 : Int), .slice A1 ll k1, .slice A2 dl k2]]) Try.call16 rfl rfl rfl (R := fun r w' => r = .bool true ∧ Below w23.heap.size w23 w') (hS1.mono ?_) ?_
          · rintro e w' ⟨rfl, hb⟩
            exact ⟨_, rfl, hb, rfl, hb⟩
          rintro r w24 _ ⟨rfl, hb24⟩
          refine ⟨w24.heap.size, hb24.size, ?_⟩
          have HF := Lib.hid (HB23.out.trans (hb24.mono HB23.out.size))
          clear hb24 hS1
          simp only [Act.put, List.setIfInBounds_toArray, List.set_cons_zero, List.set_cons_succ]
          refine tail_last (l := []) (t := ?tailE) rfl ?htailE ?_
          case htailE => simp only [pick, List.getElem?_toArray, List.getElem?_cons_succ, List.getElem?_cons_zero]; rfl
          refine wpQuiet_nil ?_
          go_wp2
          go_ret
          exact ⟨rfl, HF.out⟩
        · have hG := HG0.out wr (some ⟨g6, 0, none⟩) pn k6 bs' hrd hk6 hk6m (by omega) (fun N l d h => hgb ⟨N, l, d, h⟩)
          have HG := Lib.hid hG
          clear hG htg hrd hown hb hxw ht4 hgb HPN HPO HG1 HG0 HGET HGP
          go_wp2_with fail
          refine HG.out.mono ?_
          rintro e w20 ⟨Z5, Z6, z5, z6, K5, rfl, hb7⟩
          obtain ⟨w21, hw21⟩ : ∃ w21, w20.alloc (.cells #[.int .i64 0, .slice Z5 0 z5, .slice Z6 0 z6] 27) = w21 := ⟨_, rfl⟩
          have hb21 : Below w20.heap.size w20 w21 := by rw [← hw21]; exact (Below.refl _ _).alloc (Nat.le_refl _) _
          have n21 : w21.heap[w20.heap.size]? = some (.cells #[.int .i64 0, .slice Z5 0 z5, .slice Z6 0 z6] 27 (0, 0)) := by rw [← hw21]; exact heap_alloc_new w20 _
          obtain ⟨wd, hwd⟩ : ∃ wd, w21.drew = wd := ⟨_, rfl⟩
          have hbd : Below w21.heap.size w21 wd := by rw [← hwd]; exact (Below.refl _ _).drew
          have hb2d := hb21.trans (hbd.mono hb21.size)
          have hbrd := hb7.trans (hb2d.mono hb7.size)
          have HBD := Lib.hid (HBF.out.trans (hbrd.mono HBF.out.size))
          have HXN := Lib.hid ((hbrd.block _ (heap_lt1 HXF.out)).trans HXF.out)
          have HYN := Lib.hid ((hbd.block _ (heap_lt1 n21)).trans n21)
          have HW21 := Lib.hid hw21
          have HWD := Lib.hid hwd
          obtain ⟨a0, a1, a2⟩ := rk_cells HXN.out
          obtain ⟨b0, b1, b2⟩ := rk_cells HYN.out
          have la := heap_lt1 HXN.out
          have lb := heap_lt1 HYN.out
          clear hb7 hw21 hb21 n21 hwd hbd hb2d hbrd HG
          go_wp2_with (first | (rw [HW21.out]) | fail)
          refine wp_region_tail wd.heap.size [([0, 2], 1), ([], 3), ([], 4)] [] [5] (by kernel_rfl) (by kernel_rfl) (by kernel_rfl) (fun _ _ _ _ _ h => h) ?_
          rw [HWD.out]
          have qa0 : ∀ z : LaterB wd.heap.size wd, z.val.cell? ⟨wA.heap.size, 0, none⟩ = some (.int .i64 (N0 : Int)) := fun z => (z.ext.cell (p := ⟨wA.heap.size, 0, none⟩) la).trans a0
          have qa1 : ∀ z : LaterB wd.heap.size wd, z.val.cell? ⟨wA.heap.size, 1, none⟩ = some (.slice A1 ll k1) := fun z => (z.ext.cell (p := ⟨wA.heap.size, 1, none⟩) la).trans a1
          have qa2 : ∀ z : LaterB wd.heap.size wd, z.val.cell? ⟨wA.heap.size, 2, none⟩ = some (.slice A2 dl k2) := fun z => (z.ext.cell (p := ⟨wA.heap.size, 2, none⟩) la).trans a2
          have qb0 : ∀ z : LaterB wd.heap.size wd, z.val.cell? ⟨w20.heap.size, 0, none⟩ = some (.int .i64 0) := fun z => (z.ext.cell (p := ⟨w20.heap.size, 0, none⟩) lb).trans b0
          have qb1 : ∀ z : LaterB wd.heap.size wd, z.val.cell? ⟨w20.heap.size, 1, none⟩ = some (.slice Z5 0 z5) := fun z => (z.ext.cell (p := ⟨w20.heap.size, 1, none⟩) lb).trans b1
          have qb2 : ∀ z : LaterB wd.heap.size wd, z.val.cell? ⟨w20.heap.size, 2, none⟩ = some (.slice Z6 0 z6) := fun z => (z.ext.cell (p := ⟨w20.heap.size, 2, none⟩) lb).trans b2
          refine tail_cons (l := ?segF) ?hsegF ?_
          case hsegF => simp only [pick, List.getElem?_toArray, List.getElem?_cons_succ, List.getElem?_cons_zero]; rfl
          repeat (go_big_quiet_step (fail))
          refine wpQuiet_nil ?_
          clear qa0 qa1 qa2 qb0 qb1 qb2
          refine tail_call2 (vs := #[.agg #[.int .i64 0, .slice Z5 0 z5, .slice Z6 0 z6]]) Try.call9 rfl rfl rfl (R := fun r w' => r = .agg #[.int .i64 0, .slice Z5 0 z5, .slice Z6 0 z6] ∧ Below wd.heap.size wd w') ((HLIKE.out wd 0 Z5 Z6 0 z5 0 z6).mono ?_) ?_
          · rintro e w' ⟨rfl, hb⟩
            exact ⟨_, rfl, hb, rfl, hb⟩
          rintro r w22 _ ⟨rfl, hb22⟩
          refine ⟨w22.heap.size, hb22.size, ?_⟩
          simp only [Act.put, List.setIfInBounds_toArray, List.set_cons_zero, List.set_cons_succ]
          refine tail_cons (l := []) rfl (wpQuiet_nil ?_)
          refine tail_call2 (vs := #[.agg #[.int .i64 (N0 : Int), .slice A1 ll k1, .slice A2 dl k2]]) Try.call9 rfl rfl rfl (R := fun r w' => r = .agg #[.int .i64 (N0 : Int), .slice A1 ll k1, .slice A2 dl k2] ∧ Below w22.heap.size w22 w') ((HLIKE.out w22 (N0 : Int) A1 A2 ll k1 dl k2).mono ?_) ?_
          · rintro e w' ⟨rfl, hb⟩
            exact ⟨_, rfl, hb, rfl, hb⟩
          rintro r w23 _ ⟨rfl, hb23⟩
          refine ⟨w23.heap.size, hb23.size, ?_⟩
          have hbd23 := hb22.trans (hb23.mono hb22.size)
          have hS1 := rsame_ne w23 0 (N0 : Int) (by omega) Z5 Z6 A1 A2 0 0 z5 z6 ll dl k1 k2
          unfold imV at hS1
          have HB23 := Lib.hid (HBD.out.trans (hbd23.mono HBD.out.size))
          clear hb22 hb23 hbd23 a0 a1 a2 b0 b1 b2 la lb HYN HXN
          simp only [Act.put, List.setIfInBounds_toArray, List.set_cons_zero, List.set_cons_succ]
          refine tail_cons (l := []) rfl (wpQuiet_nil ?_)
          refine tail_call2 (vs := #[.agg #[.int .i64 0, .slice Z5 0 z5, .slice Z6 0 z6], .agg #[.int .i64 (N0 : Int), .slice A1 ll k1, .slice A2 dl k2]]) Try.call16 rfl rfl rfl (R := fun r w' => r = .bool false ∧ Below w23.heap.size w23 w') (hS1.mono ?_) ?_
          · rintro e w' ⟨rfl, hb⟩
            exact ⟨_, rfl, hb, rfl, hb⟩
          rintro r w24 _ ⟨rfl, hb24⟩
          refine ⟨w24.heap.size, hb24.size, ?_⟩
          have HF := Lib.hid (HB23.out.trans (hb24.mono HB23.out.size))
          clear hb24 hS1
          simp only [Act.put, List.setIfInBounds_toArray, List.set_cons_zero, List.set_cons_succ]
          refine tail_last (l := []) (t := ?tailF) rfl ?htailF ?_
          case htailF => simp only [pick, List.getElem?_toArray, List.getElem?_cons_succ, List.getElem?_cons_zero]; rfl
          refine wpQuiet_nil ?_
          go_wp2
          go_ret
          exact ⟨rfl, HF.out⟩
set_option maxRecDepth 100000 in
set_option maxHeartbeats 4000000 in
theorem ib_bad (w : World) (n : Int) (hn : -9223372036854775808 ≤ n ∧ n ≤ 9223372036854775807) (A1 : Option Addr) (k1 : Nat) (l : List Rk) (hr : RkRd w w.heap.size A1 l) (hml : l.length ≤ maxLen) (A2 : Option Addr) (k2 : Nat) (d : List (List UInt8)) (hd : DtRd w w.heap.size A2 d) (hmd : d.length ≤ maxLen) (A3 : Option Addr) (k3 : Nat) (b : List UInt8) (hrb : Rd w w.heap.size A3 b.length b) (hnc : b.length ≤ k3) (hk3 : k3 ≤ 9223372036854775807) (at_ : Int) (_hat : -9223372036854775808 ≤ at_ ∧ at_ ≤ 9223372036854775807) (by_ : Nat) (hby : by_ < 4294967296) (cut : Int) (_hcut : -9223372036854775808 ≤ cut ∧ cut ≤ 9223372036854775807) (hf : fewI l d = true) (hl : b.length ≤ 30000) (hbad : ∀ N l d, ¬ Good b N l d) :
    Calls Try.prog 5 #[.int .i64 n, .slice A1 l.length k1, .slice A2 d.length k2, .slice A3 b.length k3, .int .i64 at_, .int .u32 (by_ : Int), .int .i64 cut] w fun e w' => e = .returned (.bool true) ∧ Below w.heap.size w w' := by
  have HUP := Lib.hid (up15_any w)
  obtain ⟨v, hv⟩ : ∃ v : Int, (if fewI l d = true then (1 : Int) else 0) = v := ⟨_, rfl⟩
  have HFEW := Lib.hid (fun W (hb : Below w.heap.size w W) => few15_any W A1 A2 k1 k2 l d ((hd.below hb).more hb.size) hml hmd v hv)
  rw [hf] at hv
  obtain rfl : (1 : Int) = v := hv
  obtain ⟨f1, f2, f3⟩ := fewI_parts hf
  have hbl : b.length ≤ 30000 := hl
  have HR := Lib.hid hr
  have HD := Lib.hid hd
  have HRB := Lib.hid hrb
  have HPM := Lib.hid (fun W (hb : Below w.heap.size w W) => immay_any W n hn A1 A2 k1 k2 l d ((hr.below hb).more hb.size) ((hd.below hb).more hb.size) (by omega) (by omega) _ rfl)
  have HPN := Lib.hid (fun W (hb : Below w.heap.size w W) => imput_no W n hn A1 A2 k1 k2 l d ((hr.below hb).more hb.size) ((hd.below hb).more hb.size) (by omega) (by omega))
  have HPO : Hid (∀ W, Below w.heap.size w W → ∀ N : Nat, n = (N : Int) → mayI n l d = true → Calls Try.prog 10 #[imV n A1 l.length k1 A2 d.length k2] W fun e w' => ∃ A c, e = .returned (.tuple #[.slice A (putB N l d).length c, .nilIface]) ∧ w'.ownsRow W.heap.size 5 1 (.slice A (putB N l d).length c) (putB N l d).length ((putB N l d).map bv) ∧ Below W.heap.size W w') := by
    intro W hb N hN hm
    subst hN
    exact imput_ok W N (by omega) A1 A2 k1 k2 l d ((hr.below hb).more hb.size) ((hd.below hb).more hb.size) (by omega) (by omega) (by omega) hm
  have HPG := Lib.hid (fun W (hb : Below w.heap.size w W) => imget_any W A3 b.length k3 w.heap.size b (hrb.below hb) hb.size hnc hk3 (by omega))
  have HLIKE := Lib.hid (fun W N A1 A2 a1 b1 a2 b2 => like_any W N A1 A2 a1 b1 a2 b2)
  have HDFL := Lib.hid f3
  obtain ⟨bl, hbln⟩ : ∃ bl, b.length = bl := ⟨_, rfl⟩
  have g1 : decide (30000 < bl) = false := decide_eq_false (by omega)
  have g1' : decide ((30000 : Int) < (bl : Int)) = false := decide_eq_false (by omega)
  have hGB := getG_ne hbad
  obtain ⟨G, hG⟩ : ∃ G, getG b = G := ⟨_, rfl⟩
  rw [hG] at HPG hGB
  obtain ⟨K, N, lg, dg⟩ := G
  dsimp only at HPG
  obtain ⟨hK, rfl, rfl, rfl⟩ : (K = 3 ∨ K = 9) ∧ N = 0 ∧ lg = [] ∧ dg = [] := by
    rcases hGB with h | h
    · injection h with a h; injection h with b h; injection h with c d; exact ⟨.inl a, b, c, d⟩
    · injection h with a h; injection h with b h; injection h with c d; exact ⟨.inr a, b, c, d⟩
  have eV : errV K = .iface 52 (.int .i64 (K : Int)) := by unfold errV; rw [if_neg (by omega)]
  rw [eV, hbln] at HPG
  dsimp only [List.length_nil] at HPG
  rw [hbln] at HRB
  clear eV hGB hG hK hbad
  obtain ⟨ll, hll⟩ : ∃ ll, l.length = ll := ⟨_, rfl⟩
  obtain ⟨dl, hdll⟩ : ∃ dl, d.length = dl := ⟨_, rfl⟩
  rw [hll, hdll] at HFEW HPM HPN HPO
  rw [hll, hdll, hbln]
  unfold imV at HPM HPN HPO
  unfold imV at HLIKE
  have HFL : Hid (l.length = ll ∧ d.length = dl ∧ l.length ≤ 600 ∧ d.length ≤ 600) := ⟨hll, hdll, f1, f2⟩
  clear hf hr hd hml hmd hrb hnc hl hbl f1 f2 f3 hll hdll hbln
  go_enter Try.func5, Try.ntmps5
  go_wp2_with fail
  refine HUP.out.mono ?_
  rintro e w1 ⟨rfl, hb1⟩
  have HB := Lib.hid hb1
  clear hb1 HUP
  go_wp2_with fail
  refine (HFEW.out w1 HB.out).mono ?_
  rintro e w2 ⟨rfl, rfl⟩
  go_wp2_with fail
  refine (HPG.out w1 HB.out).mono ?_
  rintro e w2 ⟨B1, B2, c1, c2, rfl, _, _, hb2⟩
  obtain ⟨wA, hwA⟩ : ∃ w3, w2.alloc (.cells #[.int .i64 0, .slice B1 0 c1, .slice B2 0 c2] 27) = w3 := ⟨_, rfl⟩
  have hb3 : Below w2.heap.size w2 wA := by rw [← hwA]; exact (Below.refl _ _).alloc (Nat.le_refl _) _
  have HBA := Lib.hid (HB.out.trans ((hb2.trans (hb3.mono hb2.size)).mono HB.out.size))
  have HW3 := Lib.hid hwA
  clear hb2 hb3 hwA HPG
  obtain ⟨wX, hwX⟩ : ∃ wX, wA.alloc (.cells #[.int .i64 n, .slice A1 ll k1, .slice A2 dl k2] 27) = wX := ⟨_, rfl⟩
  have hbX : Below wA.heap.size wA wX := by rw [← hwX]; exact (Below.refl _ _).alloc (Nat.le_refl _) _
  have nX : wX.heap[wA.heap.size]? = some (.cells #[.int .i64 n, .slice A1 ll k1, .slice A2 dl k2] 27 (0, 0)) := by rw [← hwX]; exact heap_alloc_new wA _
  have HBX := Lib.hid (HBA.out.trans (hbX.mono HBA.out.size))
  have HNX := Lib.hid nX
  have HWX := Lib.hid hwX
  obtain ⟨a0, a1, a2⟩ := rk_cells nX
  have la := heap_lt1 nX
  clear hwX hbX nX
  obtain ⟨y, hy⟩ : ∃ y, mayI n l d = y := ⟨_, rfl⟩
  rw [hy] at HPM
  have HY := Lib.hid hy
  clear hy
  cases y with
  | false =>
    go_wp2_with (first | (rw [HW3.out]) | (rw [HWX.out]) | fail)
    refine (HPN.out wX HBX.out HY.out).mono ?_
    rintro e w6 ⟨rfl, hb6⟩
    have n6 := (hb6.block _ (heap_lt1 HNX.out)).trans HNX.out
    have HB6 := Lib.hid (HBX.out.trans (hb6.mono HBX.out.size))
    clear a0 a1 a2 la hb6
    obtain ⟨a0, a1, a2⟩ := rk_cells n6
    have la := heap_lt1 n6
    clear n6
    go_wp2_with fail
    refine (HPM.out w6 HB6.out).mono ?_
    rintro e w7 ⟨rfl, hb7⟩
    have HB7 := Lib.hid (HB6.out.trans (hb7.mono HB6.out.size))
    clear hb7
    go_wp2
    go_ret
    exact ⟨rfl, HB7.out⟩
  | true =>
    obtain ⟨N0, hN0, hN184⟩ := mayI_nat HY.out
    have HPO2 := Lib.hid (HPO.out wX HBX.out N0 hN0 HY.out)
    subst hN0
    have hgp := putB_good HY.out
    have hpl := putB_len N0 l d
    obtain ⟨P, hP⟩ : ∃ P, putB N0 l d = P := ⟨_, rfl⟩
    rw [hP] at HPO2 hgp
    have HGP := Lib.hid hgp
    have hpb : 40 ≤ P.length ∧ P.length ≤ 100000 := by
      have h1 := hgp.flat
      have h2 := hgp.hlen
      have h3 := datOk_held (show datOk l d = true by have := HY.out; unfold mayI at this; simp only [Bool.and_eq_true] at this; exact this.2.2) (rowOk_sz hgp.hr)
      have := HDFL.out
      omega
    have hgot := hgp.got
    obtain ⟨pn, hpn⟩ : ∃ pn, P.length = pn := ⟨_, rfl⟩
    rw [hpn] at HPO2 hpb
    have HPNN := Lib.hid hpn
    have hget : ∀ W A nn cc bs, Rd W W.heap.size A nn bs → nn ≤ cc → cc ≤ 9223372036854775807 → nn ≤ 900000 → _ := fun W A nn cc bs h1 h2 h3 h4 => imget_any W A nn cc W.heap.size bs h1 (Nat.le_refl _) h2 h3 h4
    have HGET := Lib.hid hget
    have eV0 : errV 0 = .nilIface := by unfold errV; rw [if_pos rfl]
    have HG1 : Hid (∀ W A cc, Rd W W.heap.size A pn P → pn ≤ cc → cc ≤ 9223372036854775807 → Calls Try.prog 14 #[.slice A pn cc] W fun e w' => ∃ A1 A2 c1 c2, e = .returned (.tuple #[.agg #[.int .i64 (N0 : Int), .slice A1 ll c1, .slice A2 dl c2], .nilIface]) ∧ RkRd w' w'.heap.size A1 l ∧ DtRd w' w'.heap.size A2 d ∧ Below W.heap.size W w') := fun W A cc h1 h2 h3 => by
      have h := HGET.out W A pn cc P h1 h2 h3 (by omega)
      rw [hgot] at h
      dsimp only at h
      rw [eV0, HFL.out.1, HFL.out.2.1] at h
      exact h
    have HG0 : Hid (∀ W A nn cc bs, Rd W W.heap.size A nn bs → nn ≤ cc → cc ≤ 9223372036854775807 → nn ≤ 900000 → (∀ N l d, ¬ Good bs N l d) → Calls Try.prog 14 #[.slice A nn cc] W fun e w' => ∃ A1 A2 c1 c2, ∃ K : Nat, e = .returned (.tuple #[.agg #[.int .i64 0, .slice A1 0 c1, .slice A2 0 c2], .iface 52 (.int .i64 (K : Int))]) ∧ Below W.heap.size W w') := fun W A nn cc bs h1 h2 h3 h4 h5 => by
      refine (HGET.out W A nn cc bs h1 h2 h3 h4).mono ?_
      rintro e w' ⟨A1, A2, c1, c2, he, _, _, hb⟩
      rcases getG_ne h5 with h | h
      · rw [h] at he
        exact ⟨A1, A2, c1, c2, 3, he, hb⟩
      · rw [h] at he
        exact ⟨A1, A2, c1, c2, 9, he, hb⟩
    clear hgp hpl hP hgot hpn hget eV0
    go_wp2_with (first | (rw [HW3.out]) | (rw [HWX.out]) | fail)
    refine HPO2.out.mono ?_
    rintro e w6 ⟨A6, k6, rfl, ho6, hb6⟩
    obtain ⟨g6, rfl, hk6, hk6m, hg6, hg6b⟩ := own_at ho6 (by omega)
    have HO6 := Lib.hid ho6
    have HB6 := Lib.hid (HBX.out.trans (hb6.mono HBX.out.size))
    have HN6 := Lib.hid ((hb6.block _ (heap_lt1 HNX.out)).trans HNX.out)
    have hG := HG1.out w6 (some ⟨g6, 0, none⟩) k6 (own_reads ho6) hk6 hk6m
    have HG := Lib.hid hG
    have hg6x : wA.heap.size < g6 := Nat.lt_of_lt_of_le (heap_lt1 HNX.out) hg6b
    have hg6w : w.heap.size ≤ g6 := Nat.le_trans HBX.out.size hg6b
    clear hG ho6 hb6 a0 a1 a2 la HPO2 hg6
    go_wp2_with fail
    refine HG.out.mono ?_
    rintro e w7 ⟨Y1, Y2, y1, y2, rfl, hrk, hdt, hb7⟩
    obtain ⟨w8, hw8⟩ : ∃ w8, w7.alloc (.cells #[.int .i64 (N0 : Int), .slice Y1 ll y1, .slice Y2 dl y2] 27) = w8 := ⟨_, rfl⟩
    have hb8 : Below w7.heap.size w7 w8 := by rw [← hw8]; exact (Below.refl _ _).alloc (Nat.le_refl _) _
    have n8 : w8.heap[w7.heap.size]? = some (.cells #[.int .i64 (N0 : Int), .slice Y1 ll y1, .slice Y2 dl y2] 27 (0, 0)) := by rw [← hw8]; exact heap_alloc_new w7 _
    obtain ⟨wd, hwd⟩ : ∃ wd, w8.drew = wd := ⟨_, rfl⟩
    have hbd : Below w8.heap.size w8 wd := by rw [← hwd]; exact (Below.refl _ _).drew
    have hb78 := hb8.trans (hbd.mono hb8.size)
    have hb6d := hb7.trans (hb78.mono hb7.size)
    have HYK := Lib.hid ((hrk.below hb78).more hb78.size)
    have HYD := Lib.hid ((hdt.below hb78).more hb78.size)
    have HBD := Lib.hid (HB6.out.trans (hb6d.mono HB6.out.size))
    have HXK := Lib.hid ((HR.out.below HBD.out).more HBD.out.size)
    have HXD := Lib.hid ((HD.out.below HBD.out).more HBD.out.size)
    have HOD := Lib.hid (own_stay HO6.out hb6d (own_lt HO6.out))
    have HXN := Lib.hid ((hb6d.block _ (heap_lt1 HN6.out)).trans HN6.out)
    have HYN := Lib.hid ((hbd.block _ (heap_lt1 n8)).trans n8)
    have HW8 := Lib.hid hw8
    have HWD := Lib.hid hwd
    obtain ⟨a0, a1, a2⟩ := rk_cells HXN.out
    obtain ⟨b0, b1, b2⟩ := rk_cells HYN.out
    have la := heap_lt1 HXN.out
    have lb := heap_lt1 HYN.out
    clear hrk hdt hb7 hw8 hb8 n8 hwd hbd hb78 hb6d HO6 HN6 HG
    go_wp2_with (first | (rw [HW8.out]) | fail)
    refine wp_region_tail wd.heap.size [([0, 2], 1), ([], 3), ([], 4)] [] [5] (by kernel_rfl) (by kernel_rfl) (by kernel_rfl) (fun _ _ _ _ _ h => h) ?_
    rw [HWD.out]
    have qa0 : ∀ z : LaterB wd.heap.size wd, z.val.cell? ⟨wA.heap.size, 0, none⟩ = some (.int .i64 (N0 : Int)) := fun z => (z.ext.cell (p := ⟨wA.heap.size, 0, none⟩) la).trans a0
    have qa1 : ∀ z : LaterB wd.heap.size wd, z.val.cell? ⟨wA.heap.size, 1, none⟩ = some (.slice A1 ll k1) := fun z => (z.ext.cell (p := ⟨wA.heap.size, 1, none⟩) la).trans a1
    have qa2 : ∀ z : LaterB wd.heap.size wd, z.val.cell? ⟨wA.heap.size, 2, none⟩ = some (.slice A2 dl k2) := fun z => (z.ext.cell (p := ⟨wA.heap.size, 2, none⟩) la).trans a2
    have qb0 : ∀ z : LaterB wd.heap.size wd, z.val.cell? ⟨w7.heap.size, 0, none⟩ = some (.int .i64 (N0 : Int)) := fun z => (z.ext.cell (p := ⟨w7.heap.size, 0, none⟩) lb).trans b0
    have qb1 : ∀ z : LaterB wd.heap.size wd, z.val.cell? ⟨w7.heap.size, 1, none⟩ = some (.slice Y1 ll y1) := fun z => (z.ext.cell (p := ⟨w7.heap.size, 1, none⟩) lb).trans b1
    have qb2 : ∀ z : LaterB wd.heap.size wd, z.val.cell? ⟨w7.heap.size, 2, none⟩ = some (.slice Y2 dl y2) := fun z => (z.ext.cell (p := ⟨w7.heap.size, 2, none⟩) lb).trans b2
    refine tail_cons (l := ?segA) ?hsegA ?_
    case hsegA => simp only [pick, List.getElem?_toArray, List.getElem?_cons_succ, List.getElem?_cons_zero]; rfl
    repeat (go_big_quiet_step (fail))
    refine wpQuiet_nil ?_
    clear qa0 qa1 qa2 qb0 qb1 qb2
    refine tail_call2 (vs := #[.agg #[.int .i64 (N0 : Int), .slice Y1 ll y1, .slice Y2 dl y2]]) Try.call9 rfl rfl rfl (R := fun r w' => r = .agg #[.int .i64 (N0 : Int), .slice Y1 ll y1, .slice Y2 dl y2] ∧ Below wd.heap.size wd w') ((HLIKE.out wd (N0 : Int) Y1 Y2 ll y1 dl y2).mono ?_) ?_
    · rintro e w' ⟨rfl, hb⟩
      exact ⟨_, rfl, hb, rfl, hb⟩
    rintro r w9 _ ⟨rfl, hb9⟩
    refine ⟨w9.heap.size, hb9.size, ?_⟩
    simp only [Act.put, List.setIfInBounds_toArray, List.set_cons_zero, List.set_cons_succ]
    refine tail_cons (l := []) rfl (wpQuiet_nil ?_)
    refine tail_call2 (vs := #[.agg #[.int .i64 (N0 : Int), .slice A1 ll k1, .slice A2 dl k2]]) Try.call9 rfl rfl rfl (R := fun r w' => r = .agg #[.int .i64 (N0 : Int), .slice A1 ll k1, .slice A2 dl k2] ∧ Below w9.heap.size w9 w') ((HLIKE.out w9 (N0 : Int) A1 A2 ll k1 dl k2).mono ?_) ?_
    · rintro e w' ⟨rfl, hb⟩
      exact ⟨_, rfl, hb, rfl, hb⟩
    rintro r w10 _ ⟨rfl, hb10⟩
    refine ⟨w10.heap.size, hb10.size, ?_⟩
    have hbd10 := hb9.trans (hb10.mono hb9.size)
    have hS1 := rsame_eq w10 (N0 : Int) Y1 Y2 A1 A2 y1 y2 k1 k2 l d ((HYK.out.below hbd10).more hbd10.size) ((HYD.out.below hbd10).more hbd10.size) ((HXK.out.below hbd10).more hbd10.size) ((HXD.out.below hbd10).more hbd10.size) (by have := HFL.out; omega) (by have := HFL.out; omega)
    rw [HFL.out.1, HFL.out.2.1] at hS1
    unfold imV at hS1
    have HB10 := Lib.hid (HBD.out.trans (hbd10.mono HBD.out.size))
    have HO10 := Lib.hid (own_stay HOD.out hbd10 (own_lt HOD.out))
    have HXN10 := Lib.hid ((hbd10.block _ (heap_lt1 HXN.out)).trans HXN.out)
    clear hb9 hb10 hbd10 a0 a1 a2 b0 b1 b2 la lb HYK HYD HXK HXD HYN HXN HOD
    simp only [Act.put, List.setIfInBounds_toArray, List.set_cons_zero, List.set_cons_succ]
    refine tail_cons (l := []) rfl (wpQuiet_nil ?_)
    refine tail_call2 (vs := #[.agg #[.int .i64 (N0 : Int), .slice Y1 ll y1, .slice Y2 dl y2], .agg #[.int .i64 (N0 : Int), .slice A1 ll k1, .slice A2 dl k2]]) Try.call16 rfl rfl rfl (R := fun r w' => r = .bool true ∧ Below w10.heap.size w10 w') (hS1.mono ?_) ?_
    · rintro e w' ⟨rfl, hb⟩
      exact ⟨_, rfl, hb, rfl, hb⟩
    rintro r w11 _ ⟨rfl, hb11⟩
    refine ⟨w11.heap.size, hb11.size, ?_⟩
    have HB11 := Lib.hid (HB10.out.trans (hb11.mono HB10.out.size))
    have ho11 := own_stay HO10.out hb11 (own_lt HO10.out)
    have hxn11 := (hb11.block _ (heap_lt1 HXN10.out)).trans HXN10.out
    clear hb11 hS1 HO10 HXN10
    simp only [Act.put, List.setIfInBounds_toArray, List.set_cons_zero, List.set_cons_succ]
    refine tail_last (l := []) (t := ?tailB) rfl ?htailB ?_
    case htailB => simp only [pick, List.getElem?_toArray, List.getElem?_cons_succ, List.getElem?_cons_zero]; rfl
    refine wpQuiet_nil ?_
    obtain ⟨w12, hw12⟩ : ∃ w12, w11.alloc (.cells #[] 5) = w12 := ⟨_, rfl⟩
    have hb12 : Below w11.heap.size w11 w12 := by rw [← hw12]; exact (Below.refl _ _).alloc (Nat.le_refl _) _
    have HOE := Lib.hid (show w12.ownsRow w11.heap.size 5 1 (.slice (some ⟨w11.heap.size, 0, none⟩) 0 0) 0 (([] : List UInt8).map bv) by rw [← hw12]; exact World.ownsRow_lit w11 _ 0 (Nat.le_refl _) (by unfold maxLen; omega) rfl)
    have HO12 := Lib.hid (own_stay ho11 hb12 (own_lt ho11))
    have HX12 := Lib.hid ((hb12.block _ (heap_lt1 hxn11)).trans hxn11)
    have HRD12 := Lib.hid (own_reads HO12.out)
    have HW12 := Lib.hid hw12
    have HO11 := Lib.hid ho11
    have HX11 := Lib.hid hxn11
    have HB12 := Lib.hid hb12
    have hs12 := hb12.size
    clear hw12 hb12 ho11 hxn11
    go_wp2_with (first
      | (rw [HW12.out])
      | (at_builtin; (refine append_bytes rfl (.tmp 100) (.tmp 101) 31 5 rfl Try.underlying31 u8_info w11.heap.size (.slice (some ⟨w11.heap.size, 0, none⟩) 0 0) 0 [] rfl HOE.out w12.heap.size (some ⟨g6, 0, none⟩) pn k6 P rfl HRD12.out (fun e => by cases e) (by omega) hs12 ?_); intro x13 w13 own13 hb13 gr13;
         have OWN13 : Hid (w13.ownsRow w11.heap.size 5 1 x13 pn (P.map bv)) := (show World.ownsRow _ _ _ _ _ _ _ by simpa using own13);
         have hb13' := HB12.out.trans hb13; have HB13 := Lib.hid hb13'; have hs13 := hb13'.size;
         have hbz : Below w13.heap.size w13 (w13.alloc (.cells #[.int .u8 0] 5)) := (Below.refl _ _).alloc (Nat.le_refl _) _;
         have HBZ := Lib.hid (hb13'.trans (hbz.mono hs13)); have hsz := HBZ.out.size;
         have HOZ := Lib.hid (own_stay OWN13.out hbz (own_lt OWN13.out));
         have HRZ : Hid (Rd (w13.alloc (.cells #[.int .u8 0] 5)) (w13.alloc (.cells #[.int .u8 0] 5)).heap.size (some ⟨w13.heap.size, 0, none⟩) 1 [0]) := (show Rd _ _ _ _ _ from own_reads (show World.ownsRow _ w13.heap.size _ _ _ _ _ from World.ownsRow_lit w13 #[.int .u8 0] 1 (Nat.le_refl _) (by unfold maxLen; omega) rfl));
         clear own13 hb13 hb13' hbz gr13)
      | (at_builtin; (refine append_bytes rfl (.tmp 102) (.tmp 103) 31 5 rfl Try.underlying31 u8_info w11.heap.size _ pn P rfl HOZ.out (w13.alloc (.cells #[.int .u8 0] 5)).heap.size (some ⟨w13.heap.size, 0, none⟩) 1 1 [0] rfl HRZ.out (fun e => by cases e) (by omega) hsz ?_); intro x15 w15 own15 hb15 gr15;
         have OWN15 := Lib.hid own15; have HB15 := Lib.hid (HBZ.out.trans hb15);
         clear own15 hb15 gr15)
      | fail)
    obtain ⟨A15, c15, rfl, _⟩ := own_slc OWN15.out
    obtain ⟨g15, rfl, hc15, hc15m, _, _⟩ := own_at OWN15.out (by omega)
    have hG15 := HG0.out w15 (some ⟨g15, 0, none⟩) (pn + 1) c15 (P ++ [0]) (own_reads OWN15.out) hc15 hc15m (by omega) (fun N l d h => by have := HGP.out.alone h; simp at this)
    have HG15 := Lib.hid hG15
    have HB15' := Lib.hid (HB11.out.trans (HB15.out.mono HB11.out.size))
    have HO15 := Lib.hid (own_stay HO11.out HB15.out (own_lt HO11.out))
    have HX15 := Lib.hid ((HB15.out.block _ (heap_lt1 HX11.out)).trans HX11.out)
    clear hG15 OWN13 HB13 HBZ HOZ HRZ OWN15 hs13 hsz hs12 HOE
    go_wp2_with fail
    refine HG15.out.mono ?_
    rintro e w16 ⟨Z1, Z2, z1, z2, K1, rfl, hb16⟩
    obtain ⟨w17, hw17⟩ : ∃ w17, w16.alloc (.cells #[.int .i64 0, .slice Z1 0 z1, .slice Z2 0 z2] 27) = w17 := ⟨_, rfl⟩
    have hb17 : Below w16.heap.size w16 w17 := by rw [← hw17]; exact (Below.refl _ _).alloc (Nat.le_refl _) _
    have hb157 := hb16.trans (hb17.mono hb16.size)
    have HB17 := Lib.hid (HB15'.out.trans (hb157.mono HB15'.out.size))
    have HO17 := Lib.hid (own_stay HO15.out hb157 (own_lt HO15.out))
    have HX17 := Lib.hid ((hb157.block _ (heap_lt1 HX15.out)).trans HX15.out)
    have HW17 := Lib.hid hw17
    clear hw17 hb16 hb17 hb157 HG15 HO15
    obtain ⟨pc, hpc⟩ : ∃ pc, (cut % (pn : Int)).toNat = pc := ⟨_, rfl⟩
    have hpcl : pc < pn := by have h1 := Int.emod_nonneg cut (b := (pn : Int)) (by omega); have h2 := Int.emod_lt_of_pos cut (b := (pn : Int)) (by omega); omega
    have HPK := Lib.hid (lpick_any cut pn w17 (by omega) (by omega) pc hpc)
    have hgpc : (pc : Int) ≤ (k6 : Int) := by omega
    have hRC := (own_reads HO17.out).sub 0 pc (by omega)
    rw [Nat.add_zero, List.drop_zero] at hRC
    have hG17 := HG0.out w17 (some ⟨g6, 0, none⟩) pc k6 (P.take pc) hRC (by omega) hk6m (by omega) (fun N l d h => by
      have h2 := HGP.out
      rw [← List.take_append_drop pc P] at h2
      have h3 := h.alone h2
      have h4 := congrArg List.length h3
      rw [List.length_drop, HPNN.out] at h4
      simp at h4
      omega)
    have HG17 := Lib.hid hG17
    clear hpc hRC hG17
    go_wp2_with (first | (rw [HW17.out]) | fail)
    refine HPK.out.mono ?_
    rintro e wq ⟨rfl, rfl⟩
    go_wp2_with fail
    refine HG17.out.mono ?_
    rintro e w18 ⟨U1, U2, u1, u2, K2, rfl, hb18⟩
    obtain ⟨w19, hw19⟩ : ∃ w19, w18.alloc (.cells #[.int .i64 0, .slice U1 0 u1, .slice U2 0 u2] 27) = w19 := ⟨_, rfl⟩
    have hb19 : Below w18.heap.size w18 w19 := by rw [← hw19]; exact (Below.refl _ _).alloc (Nat.le_refl _) _
    have hb179 := hb18.trans (hb19.mono hb18.size)
    have HB19 := Lib.hid (HB17.out.trans (hb179.mono HB17.out.size))
    have HO19 := Lib.hid (own_stay HO17.out hb179 (own_lt HO17.out))
    have HX19 := Lib.hid ((hb179.block _ (heap_lt1 HX17.out)).trans HX17.out)
    have HW19 := Lib.hid hw19
    clear hw19 hb18 hb19 hb179 HG17 HO17 HPK
    obtain ⟨pk, hpk⟩ : ∃ pk, (at_ % ((pn - 3 : Nat) : Int)).toNat = pk := ⟨_, rfl⟩
    have hpkl : pk + 4 ≤ pn := by have h1 := Int.emod_nonneg at_ (b := ((pn - 3 : Nat) : Int)) (by omega); have h2 := Int.emod_lt_of_pos at_ (b := ((pn - 3 : Nat) : Int)) (by omega); omega
    have HPK := Lib.hid (lpick_any at_ (pn - 3) w19 (by omega) (by omega) pk hpk)
    obtain ⟨p3, hp3⟩ : ∃ p3, pn - 3 = p3 := ⟨_, rfl⟩
    rw [hp3] at HPK
    have hi3 : (pn : Int) - 3 = (p3 : Int) := by omega
    clear hpk hp3
    go_wp2_with (first | (rw [HW19.out]) | fail)
    refine HPK.out.mono ?_
    rintro e wq ⟨rfl, rfl⟩
    have HT0 : Hid (turn4 pk P P) := ⟨rfl, fun _ _ => rfl⟩
    have hnl : ∀ x : Nat, ((x : Int) % 256) = ((x % 256 : Nat) : Int) := fun x => by omega
    go_wp2_with fail
    go_loopw [5, 31] (fun q t W => ∃ (x j : Nat) (bs' : List UInt8), q = .int .u32 (x : Int) ∧ t = .int .i64 (j : Int) ∧ x < 4294967296 ∧ j ≤ 4 ∧ turn4 pk P bs' ∧ W.ownsRow wX.heap.size 5 1 (.slice (some ⟨g6, 0, none⟩) pn k6) pn (bs'.map bv) ∧ W.heap[wA.heap.size]? = some (.cells #[.int .i64 (N0 : Int), .slice A1 ll k1, .slice A2 dl k2] 27 (0, 0)) ∧ Below w.heap.size w W) (fun _ t _ => 4 - (intOf t).toNat)
    case atStart => exact ⟨by_, 0, P, rfl, rfl, hby, by omega, HT0.out, HO19.out, HX19.out, HB19.out⟩
    case round =>
      obtain ⟨x, j, bs', rfl, rfl, hx, hj, ht4, hown, hxw, hb⟩ := hrel
      by_cases hlt : j < 4
      · have hbl' : bs'.length = pn := by rw [ht4.1]; exact HPNN.out
        obtain ⟨u, hu⟩ : ∃ u, bs'[pk + j]? = some u := ⟨bs'[pk + j]'(by omega), List.getElem?_eq_getElem _⟩
        have c0 : wr.cell? ⟨g6, pk + j, none⟩ = some (.int .u8 (u.toNat : Int)) := by
          rw [hown.cellAt (pk + j) (by omega), List.getElem?_map, hu]; rfl
        have f0 := hown.frozenAt (pk + j)
        have lg := hown.lt g6 rfl
        have lg2 := lg.2
        have hi1 : (pk : Int) + (j : Int) < (pn : Int) := by omega
        obtain ⟨tb, htb⟩ : ∃ tb : UInt8, tb.toNat = x % 256 := ⟨UInt8.ofNat (x % 256), by simp⟩
        have hm1 : (x : Int) % 256 = (tb.toNat : Int) := by omega
        have hml := tb.toNat_lt
        have hx0 := xor8t u tb
        obtain ⟨zb, hzb⟩ : ∃ zb, u ^^^ tb = zb := ⟨_, rfl⟩
        rw [hzb] at hx0
        have hx8 := hx0
        have hcv : ∀ W : World, (convert 46 5 (.int .u32 (x : Int))).run Try.prog W = .ok (.int .u8 (tb.toNat : Int)) W := fun W => by
          rw [← hm1]
          rfl
        have hst := (hown.stored (pk + j) (bv zb)).1
        rw [← List.map_set] at hst
        have HST := Lib.hid (show (wr.setCell ⟨g6, pk + j, none⟩ (.int .u8 (zb.toNat : Int))).ownsRow _ _ _ _ _ _ from hst)
        have HXS : Hid ((wr.setCell ⟨g6, pk + j, none⟩ (.int .u8 (zb.toNat : Int))).heap[wA.heap.size]? = some (.cells #[.int .i64 (N0 : Int), .slice A1 ll k1, .slice A2 dl k2] 27 (0, 0))) := (heap_setCell_other _ _ _ _ (fun e => by have : wA.heap.size = g6 := e; omega)).trans hxw
        have HBS := Lib.hid (hb.setCell (p := ⟨g6, pk + j, none⟩) hg6w (.int .u8 (zb.toNat : Int)))
        have HT4 : Hid (turn4 pk P (bs'.set (pk + j) zb)) := ⟨by rw [List.length_set]; exact ht4.1, fun i hi => by
          rw [List.getElem?_set_ne (by omega)]
          exact ht4.2 i hi⟩
        clear hown hb hxw ht4 htb hst hbl' hu hzb hx0 hm1
        go_wp2_with fail
        go_roundw
        case rel => exact ⟨x / 256, j + 1, _, by go_num, by go_num, by omega, by omega, HT4.out, HST.out, HXS.out, HBS.out⟩
        case measure => simp only [intOf]; omega
      · obtain rfl : j = 4 := by omega
        have HBF := Lib.hid hb
        have HXF := Lib.hid hxw
        have hbl' : bs'.length = pn := by rw [ht4.1]; exact HPNN.out
        have hrd := own_reads hown
        have htg := fun N' l' d' (h : Good bs' N' l' d') => turn4_good (by rw [HPNN.out]; exact hpkl) ht4 HGP.out h
        by_cases hgb : ∃ N' l' d', Good bs' N' l' d'
        · obtain ⟨N', l', d', hg'⟩ := hgb
          obtain ⟨e1, e2, e3⟩ := htg N' l' d' hg'
          obtain rfl := e1.symm
          obtain rfl := e2.symm
          obtain rfl := e3.symm
          have hG := HGET.out wr (some ⟨g6, 0, none⟩) pn k6 bs' hrd hk6 hk6m (by omega)
          rw [hg'.got] at hG
          dsimp only at hG
          rw [show errV 0 = .nilIface from by unfold errV; rw [if_pos rfl], HFL.out.1, HFL.out.2.1] at hG
          have HG := Lib.hid hG
          clear hG htg hrd hown hb hxw ht4 hg' HPN HPO HG1 HG0 HGET HGP
          go_wp2_with fail
          refine HG.out.mono ?_
          rintro e w20 ⟨Z5, Z6, z5, z6, rfl, hrk, hdt, hb7⟩
          obtain ⟨w21, hw21⟩ : ∃ w21, w20.alloc (.cells #[.int .i64 (N0 : Int), .slice Z5 ll z5, .slice Z6 dl z6] 27) = w21 := ⟨_, rfl⟩
          have hb21 : Below w20.heap.size w20 w21 := by rw [← hw21]; exact (Below.refl _ _).alloc (Nat.le_refl _) _
          have n21 : w21.heap[w20.heap.size]? = some (.cells #[.int .i64 (N0 : Int), .slice Z5 ll z5, .slice Z6 dl z6] 27 (0, 0)) := by rw [← hw21]; exact heap_alloc_new w20 _
          obtain ⟨wd, hwd⟩ : ∃ wd, w21.drew = wd := ⟨_, rfl⟩
          have hbd : Below w21.heap.size w21 wd := by rw [← hwd]; exact (Below.refl _ _).drew
          have hb2d := hb21.trans (hbd.mono hb21.size)
          have hbrd := hb7.trans (hb2d.mono hb7.size)
          have HYK := Lib.hid ((hrk.below hb2d).more hb2d.size)
          have HYD := Lib.hid ((hdt.below hb2d).more hb2d.size)
          have HBD := Lib.hid (HBF.out.trans (hbrd.mono HBF.out.size))
          have hbw := HBD.out
          have HXK := Lib.hid ((HR.out.below hbw).more hbw.size)
          have HXD := Lib.hid ((HD.out.below hbw).more hbw.size)
          have HXN := Lib.hid ((hbrd.block _ (heap_lt1 HXF.out)).trans HXF.out)
          have HYN := Lib.hid ((hbd.block _ (heap_lt1 n21)).trans n21)
          have HW21 := Lib.hid hw21
          have HWD := Lib.hid hwd
          obtain ⟨a0, a1, a2⟩ := rk_cells HXN.out
          obtain ⟨b0, b1, b2⟩ := rk_cells HYN.out
          have la := heap_lt1 HXN.out
          have lb := heap_lt1 HYN.out
          clear hrk hdt hb7 hw21 hb21 n21 hwd hbd hb2d hbrd HG
          go_wp2_with (first | (rw [HW21.out]) | fail)
          refine wp_region_tail wd.heap.size [([0, 2], 1), ([], 3), ([], 4)] [] [5] (by kernel_rfl) (by kernel_rfl) (by kernel_rfl) (fun _ _ _ _ _ h => h) ?_
          rw [HWD.out]
          have qa0 : ∀ z : LaterB wd.heap.size wd, z.val.cell? ⟨wA.heap.size, 0, none⟩ = some (.int .i64 (N0 : Int)) := fun z => (z.ext.cell (p := ⟨wA.heap.size, 0, none⟩) la).trans a0
          have qa1 : ∀ z : LaterB wd.heap.size wd, z.val.cell? ⟨wA.heap.size, 1, none⟩ = some (.slice A1 ll k1) := fun z => (z.ext.cell (p := ⟨wA.heap.size, 1, none⟩) la).trans a1
          have qa2 : ∀ z : LaterB wd.heap.size wd, z.val.cell? ⟨wA.heap.size, 2, none⟩ = some (.slice A2 dl k2) := fun z => (z.ext.cell (p := ⟨wA.heap.size, 2, none⟩) la).trans a2
          have qb0 : ∀ z : LaterB wd.heap.size wd, z.val.cell? ⟨w20.heap.size, 0, none⟩ = some (.int .i64 (N0 : Int)) := fun z => (z.ext.cell (p := ⟨w20.heap.size, 0, none⟩) lb).trans b0
          have qb1 : ∀ z : LaterB wd.heap.size wd, z.val.cell? ⟨w20.heap.size, 1, none⟩ = some (.slice Z5 ll z5) := fun z => (z.ext.cell (p := ⟨w20.heap.size, 1, none⟩) lb).trans b1
          have qb2 : ∀ z : LaterB wd.heap.size wd, z.val.cell? ⟨w20.heap.size, 2, none⟩ = some (.slice Z6 dl z6) := fun z => (z.ext.cell (p := ⟨w20.heap.size, 2, none⟩) lb).trans b2
          refine tail_cons (l := ?segE) ?hsegE ?_
          case hsegE => simp only [pick, List.getElem?_toArray, List.getElem?_cons_succ, List.getElem?_cons_zero]; rfl
          repeat (go_big_quiet_step (fail))
          refine wpQuiet_nil ?_
          clear qa0 qa1 qa2 qb0 qb1 qb2
          refine tail_call2 (vs := #[.agg #[.int .i64 (N0 : Int), .slice Z5 ll z5, .slice Z6 dl z6]]) Try.call9 rfl rfl rfl (R := fun r w' => r = .agg #[.int .i64 (N0 : Int), .slice Z5 ll z5, .slice Z6 dl z6] ∧ Below wd.heap.size wd w') ((HLIKE.out wd (N0 : Int) Z5 Z6 ll z5 dl z6).mono ?_) ?_
          · rintro e w' ⟨rfl, hb⟩
            exact ⟨_, rfl, hb, rfl, hb⟩
          rintro r w22 _ ⟨rfl, hb22⟩
          refine ⟨w22.heap.size, hb22.size, ?_⟩
          simp only [Act.put, List.setIfInBounds_toArray, List.set_cons_zero, List.set_cons_succ]
          refine tail_cons (l := []) rfl (wpQuiet_nil ?_)
          refine tail_call2 (vs := #[.agg #[.int .i64 (N0 : Int), .slice A1 ll k1, .slice A2 dl k2]]) Try.call9 rfl rfl rfl (R := fun r w' => r = .agg #[.int .i64 (N0 : Int), .slice A1 ll k1, .slice A2 dl k2] ∧ Below w22.heap.size w22 w') ((HLIKE.out w22 (N0 : Int) A1 A2 ll k1 dl k2).mono ?_) ?_
          · rintro e w' ⟨rfl, hb⟩
            exact ⟨_, rfl, hb, rfl, hb⟩
          rintro r w23 _ ⟨rfl, hb23⟩
          refine ⟨w23.heap.size, hb23.size, ?_⟩
          have hbd23 := hb22.trans (hb23.mono hb22.size)
          have hS1 := rsame_eq w23 (N0 : Int) Z5 Z6 A1 A2 z5 z6 k1 k2 l d ((HYK.out.below hbd23).more hbd23.size) ((HYD.out.below hbd23).more hbd23.size) ((HXK.out.below hbd23).more hbd23.size) ((HXD.out.below hbd23).more hbd23.size) (by have := HFL.out; omega) (by have := HFL.out; omega)
          rw [HFL.out.1, HFL.out.2.1] at hS1
          unfold imV at hS1
          clear HYK HYD HXK HXD
          have HB23 := Lib.hid (HBD.out.trans (hbd23.mono HBD.out.size))
          clear hb22 hb23 hbd23 a0 a1 a2 b0 b1 b2 la lb HYN HXN
          simp only [Act.put, List.setIfInBounds_toArray, List.set_cons_zero, List.set_cons_succ]
          refine tail_cons (l := []) rfl (wpQuiet_nil ?_)
          refine tail_call2 (vs := #[.agg #[.int .i64 (N0 : Int), .slice Z5 ll z5, .slice Z6 dl z6], .agg #[.int .i64 (N0 : Int), .slice A1 ll k1, .slice A2 dl k2]]) Try.call16 rfl rfl rfl (R := fun r w' => r = .bool true ∧ Below w23.heap.size w23 w') (hS1.mono ?_) ?_
          · rintro e w' ⟨rfl, hb⟩
            exact ⟨_, rfl, hb, rfl, hb⟩
          rintro r w24 _ ⟨rfl, hb24⟩
          refine ⟨w24.heap.size, hb24.size, ?_⟩
          have HF := Lib.hid (HB23.out.trans (hb24.mono HB23.out.size))
          clear hb24 hS1
          simp only [Act.put, List.setIfInBounds_toArray, List.set_cons_zero, List.set_cons_succ]
          refine tail_last (l := []) (t := ?tailE) rfl ?htailE ?_
          case htailE => simp only [pick, List.getElem?_toArray, List.getElem?_cons_succ, List.getElem?_cons_zero]; rfl
          refine wpQuiet_nil ?_
          go_wp2
          go_ret
          exact ⟨rfl, HF.out⟩
        · have hG := HG0.out wr (some ⟨g6, 0, none⟩) pn k6 bs' hrd hk6 hk6m (by omega) (fun N l d h => hgb ⟨N, l, d, h⟩)
          have HG := Lib.hid hG
          clear hG htg hrd hown hb hxw ht4 hgb HPN HPO HG1 HG0 HGET HGP
          go_wp2_with fail
          refine HG.out.mono ?_
          rintro e w20 ⟨Z5, Z6, z5, z6, K5, rfl, hb7⟩
          obtain ⟨w21, hw21⟩ : ∃ w21, w20.alloc (.cells #[.int .i64 0, .slice Z5 0 z5, .slice Z6 0 z6] 27) = w21 := ⟨_, rfl⟩
          have hb21 : Below w20.heap.size w20 w21 := by rw [← hw21]; exact (Below.refl _ _).alloc (Nat.le_refl _) _
          have n21 : w21.heap[w20.heap.size]? = some (.cells #[.int .i64 0, .slice Z5 0 z5, .slice Z6 0 z6] 27 (0, 0)) := by rw [← hw21]; exact heap_alloc_new w20 _
          obtain ⟨wd, hwd⟩ : ∃ wd, w21.drew = wd := ⟨_, rfl⟩
          have hbd : Below w21.heap.size w21 wd := by rw [← hwd]; exact (Below.refl _ _).drew
          have hb2d := hb21.trans (hbd.mono hb21.size)
          have hbrd := hb7.trans (hb2d.mono hb7.size)
          have HBD := Lib.hid (HBF.out.trans (hbrd.mono HBF.out.size))
          have HXN := Lib.hid ((hbrd.block _ (heap_lt1 HXF.out)).trans HXF.out)
          have HYN := Lib.hid ((hbd.block _ (heap_lt1 n21)).trans n21)
          have HW21 := Lib.hid hw21
          have HWD := Lib.hid hwd
          obtain ⟨a0, a1, a2⟩ := rk_cells HXN.out
          obtain ⟨b0, b1, b2⟩ := rk_cells HYN.out
          have la := heap_lt1 HXN.out
          have lb := heap_lt1 HYN.out
          clear hb7 hw21 hb21 n21 hwd hbd hb2d hbrd HG
          go_wp2_with (first | (rw [HW21.out]) | fail)
          refine wp_region_tail wd.heap.size [([0, 2], 1), ([], 3), ([], 4)] [] [5] (by kernel_rfl) (by kernel_rfl) (by kernel_rfl) (fun _ _ _ _ _ h => h) ?_
          rw [HWD.out]
          have qa0 : ∀ z : LaterB wd.heap.size wd, z.val.cell? ⟨wA.heap.size, 0, none⟩ = some (.int .i64 (N0 : Int)) := fun z => (z.ext.cell (p := ⟨wA.heap.size, 0, none⟩) la).trans a0
          have qa1 : ∀ z : LaterB wd.heap.size wd, z.val.cell? ⟨wA.heap.size, 1, none⟩ = some (.slice A1 ll k1) := fun z => (z.ext.cell (p := ⟨wA.heap.size, 1, none⟩) la).trans a1
          have qa2 : ∀ z : LaterB wd.heap.size wd, z.val.cell? ⟨wA.heap.size, 2, none⟩ = some (.slice A2 dl k2) := fun z => (z.ext.cell (p := ⟨wA.heap.size, 2, none⟩) la).trans a2
          have qb0 : ∀ z : LaterB wd.heap.size wd, z.val.cell? ⟨w20.heap.size, 0, none⟩ = some (.int .i64 0) := fun z => (z.ext.cell (p := ⟨w20.heap.size, 0, none⟩) lb).trans b0
          have qb1 : ∀ z : LaterB wd.heap.size wd, z.val.cell? ⟨w20.heap.size, 1, none⟩ = some (.slice Z5 0 z5) := fun z => (z.ext.cell (p := ⟨w20.heap.size, 1, none⟩) lb).trans b1
          have qb2 : ∀ z : LaterB wd.heap.size wd, z.val.cell? ⟨w20.heap.size, 2, none⟩ = some (.slice Z6 0 z6) := fun z => (z.ext.cell (p := ⟨w20.heap.size, 2, none⟩) lb).trans b2
          refine tail_cons (l := ?segF) ?hsegF ?_
          case hsegF => simp only [pick, List.getElem?_toArray, List.getElem?_cons_succ, List.getElem?_cons_zero]; rfl
          repeat (go_big_quiet_step (fail))
          refine wpQuiet_nil ?_
          clear qa0 qa1 qa2 qb0 qb1 qb2
          refine tail_call2 (vs := #[.agg #[.int .i64 0, .slice Z5 0 z5, .slice Z6 0 z6]]) Try.call9 rfl rfl rfl (R := fun r w' => r = .agg #[.int .i64 0, .slice Z5 0 z5, .slice Z6 0 z6] ∧ Below wd.heap.size wd w') ((HLIKE.out wd 0 Z5 Z6 0 z5 0 z6).mono ?_) ?_
          · rintro e w' ⟨rfl, hb⟩
            exact ⟨_, rfl, hb, rfl, hb⟩
          rintro r w22 _ ⟨rfl, hb22⟩
          refine ⟨w22.heap.size, hb22.size, ?_⟩
          simp only [Act.put, List.setIfInBounds_toArray, List.set_cons_zero, List.set_cons_succ]
          refine tail_cons (l := []) rfl (wpQuiet_nil ?_)
          refine tail_call2 (vs := #[.agg #[.int .i64 (N0 : Int), .slice A1 ll k1, .slice A2 dl k2]]) Try.call9 rfl rfl rfl (R := fun r w' => r = .agg #[.int .i64 (N0 : Int), .slice A1 ll k1, .slice A2 dl k2] ∧ Below w22.heap.size w22 w') ((HLIKE.out w22 (N0 : Int) A1 A2 ll k1 dl k2).mono ?_) ?_
          · rintro e w' ⟨rfl, hb⟩
            exact ⟨_, rfl, hb, rfl, hb⟩
          rintro r w23 _ ⟨rfl, hb23⟩
          refine ⟨w23.heap.size, hb23.size, ?_⟩
          have hbd23 := hb22.trans (hb23.mono hb22.size)
          have hS1 := rsame_ne w23 0 (N0 : Int) (by omega) Z5 Z6 A1 A2 0 0 z5 z6 ll dl k1 k2
          unfold imV at hS1
          have HB23 := Lib.hid (HBD.out.trans (hbd23.mono HBD.out.size))
          clear hb22 hb23 hbd23 a0 a1 a2 b0 b1 b2 la lb HYN HXN
          simp only [Act.put, List.setIfInBounds_toArray, List.set_cons_zero, List.set_cons_succ]
          refine tail_cons (l := []) rfl (wpQuiet_nil ?_)
          refine tail_call2 (vs := #[.agg #[.int .i64 0, .slice Z5 0 z5, .slice Z6 0 z6], .agg #[.int .i64 (N0 : Int), .slice A1 ll k1, .slice A2 dl k2]]) Try.call16 rfl rfl rfl (R := fun r w' => r = .bool false ∧ Below w23.heap.size w23 w') (hS1.mono ?_) ?_
          · rintro e w' ⟨rfl, hb⟩
            exact ⟨_, rfl, hb, rfl, hb⟩
          rintro r w24 _ ⟨rfl, hb24⟩
          refine ⟨w24.heap.size, hb24.size, ?_⟩
          have HF := Lib.hid (HB23.out.trans (hb24.mono HB23.out.size))
          clear hb24 hS1
          simp only [Act.put, List.setIfInBounds_toArray, List.set_cons_zero, List.set_cons_succ]
          refine tail_last (l := []) (t := ?tailF) rfl ?htailF ?_
          case htailF => simp only [pick, List.getElem?_toArray, List.getElem?_cons_succ, List.getElem?_cons_zero]; rfl
          refine wpQuiet_nil ?_
          go_wp2
          go_ret
          exact ⟨rfl, HF.out⟩
end Go.Proofs.Ytlhahibdddcpfaa
