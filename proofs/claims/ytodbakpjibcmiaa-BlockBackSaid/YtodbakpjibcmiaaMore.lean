/- The contracts of an arena's calls: Widen, Word, Fill; and of the document's own arena: Grow, Widen, There. -/
import Derived.Test.YtodbakpjibcmiaaHelp
import Derived.Test.YtodbakpjibcmiaaCopy
namespace Go.Proofs.Ytodbakpjibcmiaa
open Go.RowKit

section
variable {w : World} {t : TypeId} {g base cap c : Nat} {A : Option Addr} {bs : List UInt8}
theorem Ar.widened (h : Ar w t g base cap A c bs) (ht : t ≠ 5) (n : Nat) : Became t g base n A bs w (w.setCell ⟨g, 1, none⟩ (.int .i64 (n : Int))) := by
  refine ⟨A, c, ⟨?_, h.own.1, ?_⟩, Tch.set w ⟨g, 1, none⟩ _ (.inl rfl), .inl rfl⟩
  · rw [heap_setCell_same w g 1 _ t _ h.obj]
    rfl
  · rcases h.own.2 with h2 | ⟨g', cap', cur, hv, hg, hh, r⟩
    · exact .inl h2
    · refine .inr ⟨g', cap', cur, hv, hg, ?_, r⟩
      injection hv with e
      rw [Below.heap_setCell _ _ _ _ (own_ne h.own h.obj ht e)]
      exact hh

set_option maxRecDepth 100000 in
set_option maxHeartbeats 400000 in
theorem word_ok (h : Ar w 73 g base cap A c bs) (hl : bs.length ≤ 1000000) (x d : Nat) (hx : x < 18446744073709551616) (h1 : base ≤ x) (hd : x - base = d) (h2 : d + 8 ≤ bs.length) :
    Calls Try.prog 24 #[.pointer (some ⟨g, 0, none⟩), .int .u64 (x : Int)] w fun e w' => e = .returned (.tuple #[.int .u64 (numB ((bs.drop d).take 8) : Int), .nilIface]) ∧ w = w' := by
  have HP := Lib.hid (place_at h hl x 8 d hx h1 hd h2)
  have HG := Lib.hid (get_yes A bs.length c w.heap.size bs d w h.reads h.le hl h2)
  have c2 := h.c2
  clear hd
  go_enter Try.func24, Try.ntmps24
  go_wp2_with fail
  refine HP.out.mono ?_
  rintro e w' ⟨rfl, rfl⟩
  go_wp2_with fail
  refine HG.out.mono ?_
  rintro e w' ⟨rfl, rfl⟩
  go_wp2
  go_ret2
  exact ⟨rfl, rfl⟩

set_option maxRecDepth 100000 in
set_option maxHeartbeats 400000 in
theorem word_no (h : Ar w 73 g base cap A c bs) (hl : bs.length ≤ 1000000) (x : Nat) (hx : x < 18446744073709551616) (h2 : base ≤ x → bs.length < x - base + 8) :
    Calls Try.prog 24 #[.pointer (some ⟨g, 0, none⟩), .int .u64 (x : Int)] w fun e w' => e = .returned (.tuple #[.int .u64 0, .iface 56 (.int .i64 2)]) ∧ w = w' := by
  have HP := Lib.hid (place_no h hl x 8 hx h2)
  clear h2
  go_enter Try.func24, Try.ntmps24
  go_wp2_with fail
  refine HP.out.mono ?_
  rintro e w' ⟨rfl, rfl⟩
  go_wp2
  go_ret2
  exact ⟨rfl, rfl⟩

theorem lay_step (d k : Nat) (u : UInt8) (h : d + k < bs.length) : (lay bs d (List.replicate k u)).set (d + k) u = lay bs d (List.replicate (k + 1) u) := by
  have e : (bs.take d).length = d := by simp; omega
  unfold lay
  rw [List.set_append_right _ _ (by omega), e, Nat.add_sub_cancel_left, List.set_append_right _ _ (by simp)]
  simp only [List.length_replicate, Nat.sub_self]
  rw [List.drop_eq_getElem_cons (by omega), List.set_cons_zero, List.replicate_succ', List.append_assoc]
  rfl

/-- One byte of the arena's row is set. -/
theorem Ar.put1 (h : Ar w t g base cap A c bs) (ht : t ≠ 5) {h' : Nat} (hA : A = some ⟨h', 0, none⟩) (j : Nat) (u : UInt8) : Ar (w.setCell ⟨h', j, none⟩ (bv u)) t g base cap A c (bs.set j u) ∧ Tch (foot g A) w (w.setCell ⟨h', j, none⟩ (bv u)) := by
  subst hA
  have hne : g ≠ h' := (own_ne h.own h.obj ht rfl).symm
  refine ⟨⟨?_, ?_⟩, Tch.set w ⟨h', j, none⟩ _ (.inr ⟨_, rfl, rfl⟩)⟩
  · rw [Below.heap_setCell _ _ _ _ hne, List.length_set]
    exact h.obj
  · rw [List.length_set, List.map_set]
    exact (h.own.stored j (bv u)).1
theorem Ar.byte (h : Ar w t g base cap A c bs) {h' : Nat} (hA : A = some ⟨h', 0, none⟩) (j : Nat) (hj : j < bs.length) : ∃ u : UInt8, w.cell? ⟨h', j, none⟩ = some (bv u) ∧ w.frozen? ⟨h', j, none⟩ = false := by
  subst hA
  refine ⟨bs[j], ?_, h.own.frozenAt j⟩
  rw [h.own.cellAt j (by omega), List.getElem?_map, List.getElem?_eq_getElem hj]
  rfl

end

end Go.Proofs.Ytodbakpjibcmiaa
