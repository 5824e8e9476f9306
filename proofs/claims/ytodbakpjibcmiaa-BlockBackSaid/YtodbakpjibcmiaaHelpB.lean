/- The contracts of the laws' words: Arena, Base (where the seat has them). -/
import Derived.Test.YtodbakpjibcmiaaHelp
namespace Go.Proofs.Ytodbakpjibcmiaa
open Go.RowKit

/-- An arena of the call's own. -/
def MadeAr (base cap : Nat) (bs : List UInt8) (w : World) (e : Ending) (w' : World) : Prop :=
  ∃ g A c, e = .returned (.pointer (some ⟨g, 0, none⟩)) ∧ Ar w' 73 g base cap A c bs ∧ Below w.heap.size w w' ∧ w.heap.size ≤ g ∧ ∀ a, A = some a → w.heap.size ≤ a.block

theorem lay_all (cs : List UInt8) (n : Nat) (h : cs.length = n) : lay (List.replicate n 0) 0 cs = cs := by
  subst h
  simp [lay]

set_option maxHeartbeats 1000000 in
theorem arena_any (w : World) (base cap : Nat) (B : Option Addr) (k : Nat) (cs : List UInt8) (hr : Rd w w.heap.size B cs.length cs) (h1 : base % 16 = 0) (h2 : base ≤ 4611686018427387904) (h3 : 1024 ≤ cap) (h4 : cap ≤ 16384) (h5 : cs.length ≤ cap) :
    Calls Try.prog 6 #[.int .u64 (base : Int), .int .i64 (cap : Int), .slice B cs.length k] w fun e w' => MadeAr base cap cs w e w' := by
  have HN := Lib.hid (new_yes w base cap h1 h2 h3 h4)
  clear h1
  go_enter Try.func6, Try.ntmps6
  go_wp2_with fail
  refine HN.out.mono ?_
  rintro e w1 ⟨rfl, ha1, hb1⟩
  have HG := Lib.hid (grow_ok ha1 cs.length (by simp) h4 (by simpa using h5))
  have r1 := hr.below hb1
  have HB1 := Lib.hid hb1
  have HR1 := Lib.hid r1
  clear ha1 hr hb1 r1
  go_wp2_with fail
  refine HG.out.mono ?_
  rintro e w2 ⟨rfl, hbe⟩
  rw [List.nil_append] at hbe
  obtain ⟨A2, c2, ha2, hb2, hA2⟩ := hbe.below (B := w.heap.size) (Nat.le_refl _) (fun a e => by cases e) HB1.out.size
  have r2 := HR1.out.below hb2
  have hs := store_ok ha2 (by simp; omega) base 0 B k cs w.heap.size r2 (by omega) (Nat.le_refl _) (by omega) (by simp)
  rw [lay_all cs cs.length rfl] at hs
  have HS := Lib.hid hs
  have HB2 := Lib.hid (HB1.out.trans hb2)
  clear hs r2 ha2 hb2 HB1 HR1 HG HN hbe
  have HA2 := Lib.hid hA2
  clear hA2
  go_wp2_with fail
  refine HS.out.mono ?_
  rintro e w3 ⟨rfl, hbe⟩
  obtain ⟨A3, c3, ha3, hb3, hA3⟩ := hbe.below (B := w.heap.size) (Nat.le_refl _) HA2.out HB2.out.size
  have HF : Hid (MadeAr base cap cs w (.returned (.pointer (some ⟨w.heap.size, 0, none⟩))) w3) := ⟨w.heap.size, A3, c3, rfl, ha3, HB2.out.trans hb3, Nat.le_refl _, hA3⟩
  clear hbe ha3 hb3 hA3 HS HA2
  go_wp2
  go_ret
  exact HF.out

set_option maxHeartbeats 400000 in
theorem lawbase_any (w : World) (n : Nat) (hn : n < 18446744073709551616) :
    Calls Try.prog 7 #[.int .u64 (n : Int)] w fun e w' => e = .returned (.int .u64 ((n % 288230376151711744 * 16 : Nat) : Int)) ∧ w = w' := by
  have k1 : 0 ≤ (n : Int) % 288230376151711744 := by omega
  have k2 : (n : Int) % 288230376151711744 ≤ 288230376151711743 := by omega
  go_enter Try.func7, Try.ntmps7
  go_wp2
  go_ret
  exact ⟨by simp, rfl⟩

end Go.Proofs.Ytodbakpjibcmiaa
