/- The contracts of an arena's calls: Widen, Word, Fill; and of the document's own arena: Grow, Widen, There. -/
import Derived.Test.YtbalmacabojbpaaHelp
import Derived.Test.YtbalmacabojbpaaCopy
namespace Go.Proofs.Ytbalmacabojbpaa
open Go.RowKit

section
variable {w : World} {t : TypeId} {g base cap c : Nat} {A : Option Addr} {bs : List UInt8}
theorem Ar.widened (h : Ar w t g base cap A c bs) (ht : t ≠ 5) (n : Nat) : Became t g base n A bs w (w.setCell ⟨g, 1, none⟩ (.int .i64 (n : Int))) := by
  refine ⟨A, c, ⟨?_, h.own.1, ?_⟩, Tch.set w ⟨g, 1, none⟩ _ (.inl rfl), .inl rfl⟩
  · rw [heap_setCell_same w g 1 _ t _ h.obj]
    rfl
  · rcases h.own.2 with h2 | ⟨g', cap', cur, hv, hg, hh, r⟩
    · exact .inl h2
    · refine .inr ⟨g', cap', cur, hv, hg, ?_, r⟩
      injection hv with e
      rw [Below.heap_setCell _ _ _ _ (own_ne h.own h.obj ht e)]
      exact hh

set_option maxRecDepth 100000 in
set_option maxHeartbeats 400000 in
theorem widen_ok (h : Ar w 69 g base cap A c bs) (n : Nat) (h1 : cap ≤ n) (h2 : n ≤ 16384) :
    Calls Try.prog 34 #[.pointer (some ⟨g, 0, none⟩), .int .i64 (n : Int)] w fun e w' => e = .returned .nilIface ∧ Became 69 g base n A bs w w' := by
  have c1 := h.c1
  have f1 := h.thaw 1
  have HF := Lib.hid (h.widened (by decide) n)
  go_enter Try.func34, Try.ntmps34
  go_wp2
  go_ret
  exact ⟨rfl, HF.out⟩

set_option maxRecDepth 100000 in
set_option maxHeartbeats 400000 in
theorem widen_no (h : Ar w 69 g base cap A c bs) (n : Int) (hn : n < (cap : Int) ∨ 16384 < n) :
    Calls Try.prog 34 #[.pointer (some ⟨g, 0, none⟩), .int .i64 n] w fun e w' => e = .returned (.iface 95 (.int .i64 1)) ∧ w = w' := by
  have c1 := h.c1
  by_cases h1 : n < (cap : Int)
  · clear hn
    go_enter Try.func34, Try.ntmps34
    go_wp2
    go_ret
    exact ⟨rfl, rfl⟩
  · have h2 : 16384 < n := by omega
    clear hn
    go_enter Try.func34, Try.ntmps34
    go_wp2
    go_ret
    exact ⟨rfl, rfl⟩

set_option maxRecDepth 100000 in
set_option maxHeartbeats 400000 in
theorem refwiden_ok (h : Ar w 31 g base cap A c bs) (n : Nat) (h1 : cap ≤ n) (h2 : n ≤ 16384) :
    Calls Try.prog 35 #[.pointer (some ⟨g, 0, none⟩), .int .i64 (n : Int)] w fun e w' => e = .returned (.int .i64 0) ∧ Became 31 g base n A bs w w' := by
  have c1 := h.c1
  have f1 := h.thaw 1
  have HF := Lib.hid (h.widened (by decide) n)
  go_enter Try.func35, Try.ntmps35
  go_wp2
  go_ret
  exact ⟨rfl, HF.out⟩

set_option maxRecDepth 100000 in
set_option maxHeartbeats 400000 in
theorem refwiden_no (h : Ar w 31 g base cap A c bs) (n : Int) (hn : n < (cap : Int) ∨ 16384 < n) :
    Calls Try.prog 35 #[.pointer (some ⟨g, 0, none⟩), .int .i64 n] w fun e w' => e = .returned (.int .i64 1) ∧ w = w' := by
  have c1 := h.c1
  by_cases h1 : n < (cap : Int)
  · clear hn
    go_enter Try.func35, Try.ntmps35
    go_wp2
    go_ret
    exact ⟨rfl, rfl⟩
  · have h2 : 16384 < n := by omega
    clear hn
    go_enter Try.func35, Try.ntmps35
    go_wp2
    go_ret
    exact ⟨rfl, rfl⟩

set_option maxRecDepth 100000 in
set_option maxHeartbeats 400000 in
theorem word_ok (h : Ar w 69 g base cap A c bs) (hl : bs.length ≤ 1000000) (x d : Nat) (hx : x < 18446744073709551616) (h1 : base ≤ x) (hd : x - base = d) (h2 : d + 8 ≤ bs.length) :
    Calls Try.prog 39 #[.pointer (some ⟨g, 0, none⟩), .int .u64 (x : Int)] w fun e w' => e = .returned (.tuple #[.int .u64 (numB ((bs.drop d).take 8) : Int), .nilIface]) ∧ w = w' := by
  have HP := Lib.hid (place_at h hl x 8 d hx h1 hd h2)
  have HG := Lib.hid (get_yes A bs.length c w.heap.size bs d w h.reads h.le hl h2)
  have c2 := h.c2
  clear hd
  go_enter Try.func39, Try.ntmps39
  go_wp2_with fail
  refine HP.out.mono ?_
  rintro e w' ⟨rfl, rfl⟩
  go_wp2_with fail
  refine HG.out.mono ?_
  rintro e w' ⟨rfl, rfl⟩
  go_wp2
  go_ret2
  exact ⟨rfl, rfl⟩

set_option maxRecDepth 100000 in
set_option maxHeartbeats 400000 in
theorem word_no (h : Ar w 69 g base cap A c bs) (hl : bs.length ≤ 1000000) (x : Nat) (hx : x < 18446744073709551616) (h2 : base ≤ x → bs.length < x - base + 8) :
    Calls Try.prog 39 #[.pointer (some ⟨g, 0, none⟩), .int .u64 (x : Int)] w fun e w' => e = .returned (.tuple #[.int .u64 0, .iface 95 (.int .i64 2)]) ∧ w = w' := by
  have HP := Lib.hid (place_no h hl x 8 hx h2)
  clear h2
  go_enter Try.func39, Try.ntmps39
  go_wp2_with fail
  refine HP.out.mono ?_
  rintro e w' ⟨rfl, rfl⟩
  go_wp2
  go_ret2
  exact ⟨rfl, rfl⟩

theorem lay_step (d k : Nat) (u : UInt8) (h : d + k < bs.length) : (lay bs d (List.replicate k u)).set (d + k) u = lay bs d (List.replicate (k + 1) u) := by
  have e : (bs.take d).length = d := by simp; omega
  unfold lay
  rw [List.set_append_right _ _ (by omega), e, Nat.add_sub_cancel_left, List.set_append_right _ _ (by simp)]
  simp only [List.length_replicate, Nat.sub_self]
  rw [List.drop_eq_getElem_cons (by omega), List.set_cons_zero, List.replicate_succ', List.append_assoc]
  rfl

/-- One byte of the arena's row is set. -/
theorem Ar.put1 (h : Ar w t g base cap A c bs) (ht : t ≠ 5) {h' : Nat} (hA : A = some ⟨h', 0, none⟩) (j : Nat) (u : UInt8) : Ar (w.setCell ⟨h', j, none⟩ (bv u)) t g base cap A c (bs.set j u) ∧ Tch (foot g A) w (w.setCell ⟨h', j, none⟩ (bv u)) := by
  subst hA
  have hne : g ≠ h' := (own_ne h.own h.obj ht rfl).symm
  refine ⟨⟨?_, ?_⟩, Tch.set w ⟨h', j, none⟩ _ (.inr ⟨_, rfl, rfl⟩)⟩
  · rw [Below.heap_setCell _ _ _ _ hne, List.length_set]
    exact h.obj
  · rw [List.length_set, List.map_set]
    exact (h.own.stored j (bv u)).1
theorem Ar.byte (h : Ar w t g base cap A c bs) {h' : Nat} (hA : A = some ⟨h', 0, none⟩) (j : Nat) (hj : j < bs.length) : ∃ u : UInt8, w.cell? ⟨h', j, none⟩ = some (bv u) ∧ w.frozen? ⟨h', j, none⟩ = false := by
  subst hA
  refine ⟨bs[j], ?_, h.own.frozenAt j⟩
  rw [h.own.cellAt j (by omega), List.getElem?_map, List.getElem?_eq_getElem hj]
  rfl

set_option maxRecDepth 100000 in
set_option maxHeartbeats 400000 in
theorem fill_no (h : Ar w 69 g base cap A c bs) (hl : bs.length ≤ 1000000) (x n : Nat) (v : Int) (hx : x < 18446744073709551616) (h2 : base ≤ x → bs.length < x - base + n) :
    Calls Try.prog 44 #[.pointer (some ⟨g, 0, none⟩), .int .u64 (x : Int), .int .u64 (n : Int), .int .u8 v] w fun e w' => e = .returned (.iface 95 (.int .i64 2)) ∧ w = w' := by
  have HP := Lib.hid (place_no h hl x n hx h2)
  clear h2
  go_enter Try.func44, Try.ntmps44
  go_wp2_with fail
  refine HP.out.mono ?_
  rintro e w' ⟨rfl, rfl⟩
  go_wp2
  go_ret
  exact ⟨rfl, rfl⟩

set_option maxRecDepth 100000 in
set_option maxHeartbeats 1000000 in
theorem fill_ok (h : Ar w 69 g base cap A c bs) (hl : bs.length ≤ 1000000) (x n d : Nat) (u : UInt8) (hx : x < 18446744073709551616) (h1 : base ≤ x) (hd : x - base = d) (h2 : d + n ≤ bs.length) :
    Calls Try.prog 44 #[.pointer (some ⟨g, 0, none⟩), .int .u64 (x : Int), .int .u64 (n : Int), .int .u8 (u.toNat : Int)] w fun e w' => e = .returned .nilIface ∧ Became 69 g base cap A (lay bs d (List.replicate n u)) w w' := by
  have HP := Lib.hid (place_at h hl x n d hx h1 hd h2)
  clear hd
  go_enter Try.func44, Try.ntmps44
  go_wp2_with fail
  refine HP.out.mono ?_
  rintro e w' ⟨rfl, rfl⟩
  go_wp2
  go_loopw [23] (fun i wr => ∃ k : Nat, k ≤ n ∧ i = .int .u64 k ∧ Ar wr 69 g base cap A c (lay bs d (List.replicate k u)) ∧ Tch (foot g A) w wr) (fun i _ => n - (intOf i).toNat)
  case atStart => exact ⟨0, Nat.zero_le _, rfl, by rw [List.replicate_zero, lay_nil]; exact h, Tch.refl _ _⟩
  case round =>
    obtain ⟨k, hk, rfl, ha, ht⟩ := hrel
    by_cases hlt : k < n
    · have hlen := lay_length bs d (List.replicate k u) (by simp; omega)
      rcases A with _ | ad
      · obtain ⟨e0, _⟩ := h.none_
        subst e0
        rw [List.length_nil] at h2
        omega
      · obtain ⟨h', rfl, _⟩ := h.row rfl
        obtain ⟨v, q1, q2⟩ := ha.byte rfl (d + k) (by omega)
        obtain ⟨p1, p2⟩ := ha.put1 (by decide) rfl (d + k) u
        rw [lay_step d k u (by omega)] at p1
        have c2 := ha.c2
        rw [hlen] at c2
        have P1 := Lib.hid p1
        have P2 := Lib.hid (ht.trans p2 (fun _ _ h => h))
        clear p1 p2 hlen ha ht
        go_wp2
        go_roundw
        case rel => exact ⟨k + 1, by omega, by go_num, P1.out, P2.out⟩
        case measure => simp [intOf]; omega
    · go_wp2
      go_ret
      obtain rfl : k = n := by omega
      exact ⟨rfl, A, c, ha, ht, .inl rfl⟩
end

end Go.Proofs.Ytbalmacabojbpaa
