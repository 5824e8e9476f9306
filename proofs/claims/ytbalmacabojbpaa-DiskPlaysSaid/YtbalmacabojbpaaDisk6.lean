/- The contract of disk.Of. -/
import Derived.Test.YtbalmacabojbpaaDisk5
namespace Go.Proofs.Ytbalmacabojbpaa
open Go.RowKit

set_option maxRecDepth 100000 in
set_option maxHeartbeats 400000 in
theorem dof_no (w : World) (A : Option Addr) (n c : Nat) (hn : n ≤ 9223372036854775807) (h : n % 512 ≠ 0 ∨ n < 1024 ∨ 65536 < n) :
    Calls Try.prog 15 #[.slice A n c] w fun e w' => e = .returned (.pointer none) ∧ w = w' := by
  by_cases h1 : n % 512 = 0
  · have s1 : ((n : Int) % 512 != 0) = false := by rw [bne_eq_false_iff_eq]; omega
    obtain ⟨m, hm⟩ : ∃ m : Int, (n : Int) / 512 = m := ⟨_, rfl⟩
    have HM := Lib.hid (mayHave_no w m (by omega))
    have HE := Lib.hid hm
    clear h h1 hm
    go_enter Try.func15, Try.ntmps15
    go_wp2_with fail
    rw [HE.out]
    with_reducible refine HM.out.mono ?_
    rintro e w1 ⟨rfl, rfl⟩
    go_wp2
    go_ret
    exact ⟨rfl, rfl⟩
  · have s1 : ((n : Int) % 512 != 0) = true := by rw [bne_iff_ne]; omega
    clear h h1
    go_enter Try.func15, Try.ntmps15
    go_wp2
    go_ret
    exact ⟨rfl, rfl⟩

/-- A disk of the call's own. -/
def MadeDk (bs : List UInt8) (w : World) (e : Ending) (w' : World) : Prop :=
  ∃ g h c, e = .returned (.pointer (some ⟨g, 0, none⟩)) ∧ Dk (grow (fun _ => False) w w') w' g h c none 0 bs [] (-1) false ∧ Below w.heap.size w w'

set_option maxRecDepth 100000 in
set_option maxHeartbeats 400000 in
theorem dof_yes (w : World) (A : Option Addr) (c : Nat) (bs : List UInt8) (hr : Rd w w.heap.size A bs.length bs) (hA : A = none → c = 0) (h1 : bs.length % 512 = 0) (h2 : 1024 ≤ bs.length) (h3 : bs.length ≤ 65536) :
    Calls Try.prog 15 #[.slice A bs.length c] w fun e w' => MadeDk bs w e w' := by
  have s1 : ((bs.length : Int) % 512 != 0) = false := by rw [bne_eq_false_iff_eq]; omega
  obtain ⟨m, hm⟩ : ∃ m : Nat, (bs.length : Int) / 512 = (m : Int) := ⟨bs.length / 512, by omega⟩
  have HM := Lib.hid (mayHave_yes w m (by omega) (by omega))
  have HE := Lib.hid hm
  have HC := Lib.hid (sclone_any A c w.heap.size bs w hr (Nat.le_refl _) hA (by omega))
  clear h1 hm hr hA
  go_enter Try.func15, Try.ntmps15
  go_wp2_with fail
  rw [HE.out]
  with_reducible refine HM.out.mono ?_
  rintro e w1 ⟨rfl, rfl⟩
  clear s1
  go_wp2_with fail
  with_reducible refine HC.out.mono ?_
  rintro e w1 ⟨A', c', rfl, ho, hb⟩
  obtain ⟨h, c2, e1, _, _⟩ := own_rd ho (by omega)
  injection e1 with e1 _ e3
  subst e1 e3
  have HO := Lib.hid ho
  have HB := Lib.hid hb
  clear ho hb
  go_wp2
  go_ret
  have hb2 : Below w1.heap.size w1 (w1.alloc (.cells #[.slice (some ⟨h, 0, none⟩) bs.length c', .slice none 0 0, .int .i64 (-1), .bool false] 91)) := (Below.refl _ _).alloc (Nat.le_refl _) _
  have hh := HO.out.lt h rfl
  have hs := HB.out.size
  refine ⟨w1.heap.size, h, c', rfl, ⟨heap_alloc_new w1 _, ?_, World.ownsRow_nil _ _ _ _, (fun x hx => by cases hx), .inr ?_, .inr ?_, (fun a e => by cases e), (fun x hx => by cases hx)⟩, HB.out.trans (hb2.mono hs)⟩
  · obtain ⟨h1, h2⟩ := own_below HO.out hb2
    exact ⟨h1, h2.imp id fun ⟨g', cap', cur, a, b, c⟩ => ⟨g', cap', cur, a, Nat.zero_le _, c⟩⟩
  · simp; omega
  · simp; omega
end Go.Proofs.Ytbalmacabojbpaa
