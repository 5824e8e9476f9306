/- The contracts of the document's own arena: Word, Copy, Fill; of an arena's Clone; of the law's words: at, low, MayArena. -/
import Derived.Test.YtbalmacabojbpaaRefStore
import Derived.Test.YtbalmacabojbpaaUp3
namespace Go.Proofs.Ytbalmacabojbpaa
open Go.RowKit

section
variable {w : World} {g base cap c : Nat} {A : Option Addr} {bs : List UInt8}
theorem foot_lt_not {w : World} {t : TypeId} {g base cap c : Nat} {A : Option Addr} {bs : List UInt8} (h : Ar w t g base cap A c bs) {k : Nat} (hk : w.heap.size ≤ k) : ¬ foot g A k := fun hf => by
  have := h.foot_lt hf
  omega

set_option maxRecDepth 100000 in
set_option maxHeartbeats 400000 in
theorem refword_ok (h : Ar w 31 g base cap A c bs) (hl : bs.length ≤ 1000000) (x d : Nat) (hx : x < 18446744073709551616) (h1 : base ≤ x) (hd : x - base = d) (h2 : d + 8 ≤ bs.length) :
    Calls Try.prog 40 #[.pointer (some ⟨g, 0, none⟩), .int .u64 (x : Int)] w fun e w' => e = .returned (.tuple #[.int .u64 (numB ((bs.drop d).take 8) : Int), .int .i64 0]) ∧ Below w.heap.size w w' := by
  have hk := refload_ok h hl x 8 d hx h1 hd h2
  have hlen : ((bs.drop d).take 8).length = 8 := by simp; omega
  obtain ⟨ys, hys⟩ : ∃ ys, (bs.drop d).take 8 = ys := ⟨_, rfl⟩
  rw [hys] at hk hlen ⊢
  have HK := Lib.hid hk
  have HL := Lib.hid hlen
  clear hk hd hys hlen h
  go_enter Try.func40, Try.ntmps40
  go_wp2_with fail
  refine HK.out.mono ?_
  rintro e w1 ⟨A', c', rfl, ho, hb⟩
  have HN := Lib.hid (refNum_any A' ys.length c' w1.heap.size ys w1 (Rd.own ho) (by rw [HL.out]; omega))
  have HB := Lib.hid hb
  clear ho hb HK
  go_wp2_with fail
  with_reducible refine HN.out.mono ?_
  rintro e w2 ⟨rfl, rfl⟩
  go_wp2
  go_ret2
  exact ⟨rfl, HB.out⟩

set_option maxRecDepth 100000 in
set_option maxHeartbeats 400000 in
theorem refword_no (h : Ar w 31 g base cap A c bs) (hl : bs.length ≤ 1000000) (x : Nat) (hx : x < 18446744073709551616) (h2 : base ≤ x → bs.length < x - base + 8) :
    Calls Try.prog 40 #[.pointer (some ⟨g, 0, none⟩), .int .u64 (x : Int)] w fun e w' => e = .returned (.tuple #[.int .u64 0, .int .i64 2]) ∧ Below w.heap.size w w' := by
  have HK := Lib.hid (refload_no h hl x 8 hx (by omega) h2)
  clear h2
  go_enter Try.func40, Try.ntmps40
  go_wp2_with fail
  refine HK.out.mono ?_
  rintro e w1 ⟨rfl, k, rfl⟩
  go_wp2_with fail
  refine (refNum_any none 0 0 0 [] _ Rd.nil_ (by omega)).mono ?_
  rintro e w2 ⟨rfl, rfl⟩
  go_wp2
  go_ret2
  exact ⟨rfl, below_drewN w k⟩

set_option maxRecDepth 100000 in
set_option maxHeartbeats 400000 in
theorem refcopy_no1 (h : Ar w 31 g base cap A c bs) (hl : bs.length ≤ 1000000) (x y n : Nat) (hy : y < 18446744073709551616) (hn : n < 18446744073709551616) (h2 : base ≤ y → bs.length < y - base + n) :
    Calls Try.prog 43 #[.pointer (some ⟨g, 0, none⟩), .int .u64 (x : Int), .int .u64 (y : Int), .int .u64 (n : Int)] w fun e w' => e = .returned (.int .i64 2) ∧ Below w.heap.size w w' := by
  have HK := Lib.hid (refload_no h hl y n hy hn h2)
  clear h2
  go_enter Try.func43, Try.ntmps43
  go_wp2_with fail
  with_reducible refine HK.out.mono ?_
  rintro e w1 ⟨rfl, k, rfl⟩
  go_wp2
  go_ret
  exact ⟨rfl, below_drewN w k⟩

set_option maxRecDepth 100000 in
set_option maxHeartbeats 400000 in
theorem refcopy_no2 (h : Ar w 31 g base cap A c bs) (hl : bs.length ≤ 1000000) (x y n f : Nat) (hx : x < 18446744073709551616) (hy : y < 18446744073709551616) (h3 : base ≤ y) (hf : y - base = f) (h4 : f + n ≤ bs.length) (h2 : base ≤ x → bs.length < x - base + n) :
    Calls Try.prog 43 #[.pointer (some ⟨g, 0, none⟩), .int .u64 (x : Int), .int .u64 (y : Int), .int .u64 (n : Int)] w fun e w' => e = .returned (.int .i64 2) ∧ Below w.heap.size w w' := by
  have hk := refload_ok h hl y n f hy h3 hf h4
  have hlen : ((bs.drop f).take n).length = n := by simp; omega
  obtain ⟨ys, hys⟩ : ∃ ys, (bs.drop f).take n = ys := ⟨_, rfl⟩
  rw [hys] at hk hlen
  subst hlen
  have HK := Lib.hid hk
  have H2 := Lib.hid h2
  clear hk hf hys h2
  go_enter Try.func43, Try.ntmps43
  go_wp2_with fail
  with_reducible refine HK.out.mono ?_
  rintro e w1 ⟨A', c', rfl, ho, hb⟩
  have HS := Lib.hid (refstore_no (h.below hb) hl x ys.length A' c' hx (by omega) H2.out)
  have HB := Lib.hid hb
  clear ho hb HK H2
  go_wp2_with fail
  with_reducible refine HS.out.mono ?_
  rintro e w2 ⟨rfl, k, rfl⟩
  go_wp2
  go_ret
  exact ⟨rfl, HB.out.trans ((below_drewN w1 k).mono HB.out.size)⟩

set_option maxRecDepth 100000 in
set_option maxHeartbeats 400000 in
theorem refcopy_ok (h : Ar w 31 g base cap A c bs) (hl : bs.length ≤ 1000000) (x y n d f : Nat) (hx : x < 18446744073709551616) (hy : y < 18446744073709551616) (h1 : base ≤ x) (hd : x - base = d) (h2 : d + n ≤ bs.length) (h3 : base ≤ y) (hf : y - base = f) (h4 : f + n ≤ bs.length) :
    Calls Try.prog 43 #[.pointer (some ⟨g, 0, none⟩), .int .u64 (x : Int), .int .u64 (y : Int), .int .u64 (n : Int)] w fun e w' => e = .returned (.int .i64 0) ∧ Became 31 g base cap A (lay bs d ((bs.drop f).take n)) w w' := by
  have hk := refload_ok h hl y n f hy h3 hf h4
  have hlen : ((bs.drop f).take n).length = n := by simp; omega
  obtain ⟨ys, hys⟩ : ∃ ys, (bs.drop f).take n = ys := ⟨_, rfl⟩
  rw [hys] at hk hlen ⊢
  subst hlen
  have HK := Lib.hid hk
  have HD := Lib.hid hd
  clear hk hf hys hd
  go_enter Try.func43, Try.ntmps43
  go_wp2_with fail
  with_reducible refine HK.out.mono ?_
  rintro e w1 ⟨A', c', rfl, ho, hb⟩
  have hnf : ∀ a, A' = some a → ¬ foot g A a.block := fun a e => foot_lt_not h (ho.lt a.block (by rw [e]; rfl)).1
  have HS := Lib.hid (refstore_ok (h.below hb) hl x d A' c' ys (Rd.own ho) (fun _ => hnf) hx h1 HD.out h2)
  have HB := Lib.hid hb
  clear ho hb HK hnf
  go_wp2_with fail
  with_reducible refine HS.out.mono ?_
  rintro e w2 ⟨rfl, hbe⟩
  have HE := Lib.hid (hbe.after HB.out)
  clear hbe
  go_wp2
  go_ret
  exact ⟨rfl, HE.out⟩

set_option maxRecDepth 100000 in
set_option maxHeartbeats 400000 in
theorem reffill_no (h : Ar w 31 g base cap A c bs) (hl : bs.length ≤ 1000000) (x n : Nat) (v : Int) (hx : x < 18446744073709551616) (hn : n < 18446744073709551616) (h2 : base ≤ x → bs.length < x - base + n) :
    Calls Try.prog 45 #[.pointer (some ⟨g, 0, none⟩), .int .u64 (x : Int), .int .u64 (n : Int), .int .u8 v] w fun e w' => e = .returned (.int .i64 2) ∧ Below w.heap.size w w' := by
  have HK := Lib.hid (refload_no h hl x n hx hn h2)
  clear h2
  go_enter Try.func45, Try.ntmps45
  go_wp2_with fail
  with_reducible refine HK.out.mono ?_
  rintro e w1 ⟨rfl, k, rfl⟩
  go_wp2
  go_ret
  exact ⟨rfl, below_drewN w k⟩

set_option maxRecDepth 100000 in
set_option maxHeartbeats 1000000 in
theorem reffill_ok (h : Ar w 31 g base cap A c bs) (hl : bs.length ≤ 1000000) (x n d : Nat) (u : UInt8) (hx : x < 18446744073709551616) (h1 : base ≤ x) (hd : x - base = d) (h2 : d + n ≤ bs.length) :
    Calls Try.prog 45 #[.pointer (some ⟨g, 0, none⟩), .int .u64 (x : Int), .int .u64 (n : Int), .int .u8 (u.toNat : Int)] w fun e w' => e = .returned (.int .i64 0) ∧ Became 31 g base cap A (lay bs d (List.replicate n u)) w w' := by
  have hk := refload_ok h hl x n d hx h1 hd h2
  have hlen : ((bs.drop d).take n).length = n := by simp; omega
  obtain ⟨ys, hys⟩ : ∃ ys, (bs.drop d).take n = ys := ⟨_, rfl⟩
  rw [hys] at hk hlen
  subst hlen
  have HK := Lib.hid hk
  have HD := Lib.hid hd
  clear hk hys hd
  go_enter Try.func45, Try.ntmps45
  go_wp2_with fail
  with_reducible refine HK.out.mono ?_
  rintro e w1 ⟨A', c', rfl, ho, hb⟩
  have HO := Lib.hid ho
  have HB := Lib.hid hb
  clear ho hb HK
  go_wp2
  go_loopw [11] (fun i wr => ∃ k : Nat, k ≤ ys.length ∧ i = .int .i64 k ∧ wr.ownsRow w.heap.size 5 1 (.slice A' ys.length c') ys.length ((List.replicate k u ++ ys.drop k).map bv) ∧ Below w.heap.size w wr) (fun i _ => ys.length - (intOf i).toNat)
  case atStart => exact ⟨0, Nat.zero_le _, rfl, HO.out, HB.out⟩
  case round =>
    obtain ⟨k, hk, rfl, ho, hb⟩ := hrel
    by_cases hlt : k < ys.length
    · obtain ⟨g', c2, e1, _, _⟩ := own_rd ho (by omega)
      injection e1 with e1 _ e3
      subst e1 e3
      have hlen : (List.replicate k u ++ ys.drop k).length = ys.length := by simp; omega
      have q1 : wr.cell? ⟨g', k, none⟩ = some (.int .u8 ((ys[k]'hlt).toNat : Int)) := by
        rw [ho.cellAt k (by omega), List.getElem?_map, List.getElem?_append_right (by simp), List.length_replicate, Nat.sub_self, List.getElem?_drop, Nat.add_zero, List.getElem?_eq_getElem hlt]
        rfl
      have q2 := ho.frozenAt k
      have hst := (ho.stored k (bv u)).1
      rw [← List.map_set] at hst
      have e : (List.replicate k u ++ ys.drop k).set k u = List.replicate (k + 1) u ++ ys.drop (k + 1) := by
        rw [List.set_append_right _ _ (by simp), List.length_replicate, Nat.sub_self, List.drop_eq_getElem_cons hlt, List.set_cons_zero, List.replicate_succ', List.append_assoc]
        rfl
      rw [e] at hst
      have HST : Hid ((wr.setCell ⟨g', k, none⟩ (.int .u8 (u.toNat : Int))).ownsRow w.heap.size 5 1 (.slice (some ⟨g', 0, none⟩) ys.length c') ys.length ((List.replicate (k + 1) u ++ ys.drop (k + 1)).map bv)) := hst
      have HBB : Hid (Below w.heap.size w (wr.setCell ⟨g', k, none⟩ (.int .u8 (u.toNat : Int)))) := hb.setCell (ho.lt g' rfl).1 _
      clear hst e hlen ho hb
      go_wp2
      go_roundw
      case rel => exact ⟨k + 1, by omega, by go_num, HST.out, HBB.out⟩
      case measure => simp [intOf]; omega
    · obtain rfl : k = ys.length := by omega
      rw [List.drop_length, List.append_nil] at ho
      have hlr : (List.replicate ys.length u).length = ys.length := List.length_replicate ..
      have hnf : ∀ a, A' = some a → ¬ foot g A a.block := fun a e => foot_lt_not h (ho.lt a.block (by rw [e]; rfl)).1
      have hs := refstore_ok (h.below hb) hl x d A' c' (List.replicate ys.length u) (by rw [hlr]; exact Rd.own ho) (fun _ => hnf) hx h1 HD.out (by rw [hlr]; exact h2)
      rw [hlr] at hs
      have HS := Lib.hid hs
      have HBB := Lib.hid hb
      clear hs hb ho hnf hlr HO HB
      go_wp2_with fail
      with_reducible refine HS.out.mono ?_
      rintro e w2 ⟨rfl, hbe⟩
      have HE := Lib.hid (hbe.after HBB.out)
      clear hbe
      go_wp2
      go_ret
      exact ⟨rfl, HE.out⟩
end
end Go.Proofs.Ytbalmacabojbpaa
