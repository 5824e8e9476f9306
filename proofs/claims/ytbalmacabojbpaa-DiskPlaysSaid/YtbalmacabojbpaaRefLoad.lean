/- The contracts of the document's own arena: Load, Store. -/
import Derived.Test.YtbalmacabojbpaaRef
import Derived.Test.YtbalmacabojbpaaTail
namespace Go.Proofs.Ytbalmacabojbpaa
open Go.RowKit

/-- A row of the call's own, and the error's number 0. -/
def RefTold (bs : List UInt8) (w : World) (e : Ending) (w' : World) : Prop :=
  ∃ A' c', e = .returned (.tuple #[.slice A' bs.length c', .int .i64 0]) ∧ w'.ownsRow w.heap.size 5 1 (.slice A' bs.length c') bs.length (bs.map bv) ∧ Below w.heap.size w w'

theorem below_drewN (w : World) (k : Nat) : Below w.heap.size w (w.drewN k) := ⟨rfl, rfl, rfl, Nat.le_refl _, fun _ _ => rfl⟩

section
variable {w : World} {g base cap c : Nat} {A : Option Addr} {bs : List UInt8}
set_option maxRecDepth 100000 in
set_option maxHeartbeats 400000 in
theorem refload_no (h : Ar w 31 g base cap A c bs) (hl : bs.length ≤ 1000000) (x n : Nat) (hx : x < 18446744073709551616) (hn : n < 18446744073709551616) (h2 : base ≤ x → bs.length < x - base + n) :
    Calls Try.prog 36 #[.pointer (some ⟨g, 0, none⟩), .int .u64 (x : Int), .int .u64 (n : Int)] w fun e w' => e = .returned (.tuple #[.slice none 0 0, .int .i64 2]) ∧ ∃ k, w' = w.drewN k := by
  have HP := Lib.hid (there_no h hl x n hx hn h2)
  clear h2
  go_enter Try.func36, Try.ntmps36
  go_wp2_with fail
  refine HP.out.mono ?_
  rintro e w' ⟨rfl, k, rfl⟩
  go_wp2
  go_ret2
  exact ⟨rfl, _, rfl⟩

set_option maxRecDepth 100000 in
set_option maxHeartbeats 400000 in
/-- The last step of Load, over whatever the cut is. -/
theorem refload_cut (h : Ar w 31 g base cap A c bs) (hl : bs.length ≤ 1000000) (x d : Nat) (ys : List UInt8) (hx : x < 18446744073709551616) (h1 : base ≤ x) (hd : x - base = d) (h2 : d + ys.length ≤ bs.length) (X : Option Addr)
    (hX : X = if c = d then A else A.map (·.add d)) (hr : Rd w w.heap.size X ys.length ys) (hz : X = none → c - d = 0) :
    Calls Try.prog 36 #[.pointer (some ⟨g, 0, none⟩), .int .u64 (x : Int), .int .u64 (ys.length : Int)] w fun e w' => RefTold ys w e w' := by
  have HP := Lib.hid (there_yes h hl x ys.length d hx h1 hd h2)
  have hle := h.le
  clear hd
  have HR := Lib.hid hr
  have HZ := Lib.hid hz
  have hAA : (A = none ∧ c = 0 ∧ bs = []) ∨ ∃ h', A = some ⟨h', 0, none⟩ := by
    rcases A with _ | ad
    · exact .inl ⟨rfl, h.none_.2, h.none_.1⟩
    · obtain ⟨h', rfl, _⟩ := h.row rfl
      exact .inr ⟨h', rfl⟩
  have hcm : c ≤ 9223372036854775807 := by
    rcases A with _ | ad
    · rw [h.none_.2]; omega
    · obtain ⟨_, _, _, _, _, hm, _⟩ := h.row rfl
      unfold maxLen at hm; omega
  clear hr hz
  go_enter Try.func36, Try.ntmps36
  go_wp2_with fail
  refine HP.out.mono ?_
  rintro e w' ⟨rfl, k, rfl⟩
  have ha := h.drewN k
  have hb := below_drewN w k
  have rs := HR.out.drewN k
  have hzz : w.heap.size = (w.drewN k).heap.size := rfl
  generalize w.drewN k = w1 at ha hb hzz rs ⊢
  rw [hzz] at rs
  have c2 : (w1.alloc (.cells #[] 5)).cell? ⟨g, 2, none⟩ = some (.slice A bs.length c) := (World.cell?_alloc_lt w1 _ ⟨g, 2, none⟩ ha.lt).trans ha.c2
  have RS := Lib.hid (rs.alloc (Nat.le_refl _) (.cells #[] 5))
  have OWN1 : Hid ((w1.alloc (.cells #[] 5)).ownsRow w1.heap.size 5 1 (.slice (some ⟨w1.heap.size, 0, none⟩) 0 0) 0 (([] : List UInt8).map bv)) := World.ownsRow_lit w1 _ 0 (Nat.le_refl _) (by unfold maxLen; omega) rfl
  have HB := Lib.hid hb
  have HZZ := Lib.hid hzz
  clear rs hb hzz ha HP HR h
  rcases hAA with ⟨rfl, rfl, rfl⟩ | ⟨h', rfl⟩
  · have e1 : X = none := by rw [hX]; split <;> rfl
    subst e1
    have h3 : d + ys.length ≤ 0 := h2
    obtain rfl : d = 0 := by omega
    obtain rfl : ys = [] := List.eq_nil_of_length_eq_zero (by omega)
    clear hX
    go_wp2
    go_ret2
    refine ⟨some ⟨w1.heap.size, 0, none⟩, 0, rfl, by rw [HZZ.out]; exact OWN1.out, HB.out.trans ?_⟩
    rw [HZZ.out]
    exact (Below.refl _ _).alloc (Nat.le_refl _) _
  · by_cases hdc : c = d
    · have e1 : X = some ⟨h', 0, none⟩ := by rw [hX, if_pos hdc]
      subst e1 hdc
      clear hX
      go_wp2_with (first
        | (at_builtin; go_must (refine append_bytes rfl (.tmp 19) (.tmp 29) 29 5 rfl Try.underlying29 u8_inf w1.heap.size (.slice (some ⟨w1.heap.size, 0, none⟩) 0 0) 0 [] rfl OWN1.out w1.heap.size (some ⟨h', 0, none⟩) (c + ys.length - c) _ ys rfl (by rw [Nat.add_sub_cancel_left]; exact RS.out) (fun e => by cases e) (by omega) (by simp) ?_); intro x2 w2 own2 hb2 gr2; have own3 : w2.ownsRow w1.heap.size 5 1 x2 ys.length (ys.map bv) := (by simpa [Nat.add_sub_cancel_left] using own2); have OWN3 := Lib.hid own3; have HB2 := Lib.hid hb2; clear own2 own3 gr2 hb2))
      go_ret2
      obtain ⟨_, A', c', rfl⟩ := own_slice OWN3.out
      refine ⟨A', c', rfl, by rw [HZZ.out]; exact OWN3.out, HB.out.trans ?_⟩
      rw [HZZ.out]
      exact ((Below.refl _ _).alloc (Nat.le_refl _) _).trans HB2.out
    · have e1 : X = some ⟨h', d, none⟩ := by
        rw [hX, if_neg hdc, Option.map_some]
        congr 1
        unfold Addr.add; split <;> simp_all
      subst e1
      clear hX
      go_wp2_with (first
        | (at_builtin; go_must (refine append_bytes rfl (.tmp 19) (.tmp 29) 29 5 rfl Try.underlying29 u8_inf w1.heap.size (.slice (some ⟨w1.heap.size, 0, none⟩) 0 0) 0 [] rfl OWN1.out w1.heap.size (some ⟨h', d, none⟩) (d + ys.length - d) _ ys rfl (by rw [Nat.add_sub_cancel_left]; exact RS.out) (fun e => by cases e) (by omega) (by simp) ?_); intro x2 w2 own2 hb2 gr2; have own3 : w2.ownsRow w1.heap.size 5 1 x2 ys.length (ys.map bv) := (by simpa [Nat.add_sub_cancel_left] using own2); have OWN3 := Lib.hid own3; have HB2 := Lib.hid hb2; clear own2 own3 gr2 hb2))
      go_ret2
      obtain ⟨_, A', c', rfl⟩ := own_slice OWN3.out
      refine ⟨A', c', rfl, by rw [HZZ.out]; exact OWN3.out, HB.out.trans ?_⟩
      rw [HZZ.out]
      exact ((Below.refl _ _).alloc (Nat.le_refl _) _).trans HB2.out

theorem refload_ok (h : Ar w 31 g base cap A c bs) (hl : bs.length ≤ 1000000) (x n d : Nat) (hx : x < 18446744073709551616) (h1 : base ≤ x) (hd : x - base = d) (h2 : d + n ≤ bs.length) :
    Calls Try.prog 36 #[.pointer (some ⟨g, 0, none⟩), .int .u64 (x : Int), .int .u64 (n : Int)] w fun e w' => RefTold ((bs.drop d).take n) w e w' := by
  have hlen : ((bs.drop d).take n).length = n := by simp; omega
  obtain ⟨ys, hys⟩ : ∃ ys, (bs.drop d).take n = ys := ⟨_, rfl⟩
  have hrd := h.reads
  rw [hys] at hlen ⊢
  subst hlen
  refine refload_cut h hl x d ys hx h1 hd h2 _ rfl ?_ ?_
  · rcases Nat.eq_zero_or_pos ys.length with h0 | h0
    · rw [List.eq_nil_of_length_eq_zero h0]
      exact Rd.nil_
    · have hle := h.le
      obtain ⟨b, off, rfl, _, _⟩ := hrd.2 (by omega)
      rw [if_neg (by omega)]
      have e : (⟨b, off, none⟩ : Addr).add d = ⟨b, off + d, none⟩ := by unfold Addr.add; split <;> simp_all
      rw [Option.map_some, e]
      have r := hrd.sub d ys.length h2
      rw [hys] at r
      exact r
  · intro e
    rcases A with _ | ad
    · rw [h.none_.2]; omega
    · split at e <;> cases e
end
end Go.Proofs.Ytbalmacabojbpaa
