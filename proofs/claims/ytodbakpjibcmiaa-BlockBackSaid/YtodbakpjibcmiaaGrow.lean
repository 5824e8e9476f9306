/- The contracts of an arena's calls: New, Grow. -/
import Derived.Test.YtodbakpjibcmiaaPlace
import Derived.Test.YtodbakpjibcmiaaZeros
import Derived.Deep.QuietTactic
import Derived.BigQuiet
namespace Go.Proofs.Ytodbakpjibcmiaa
open Go.RowKit

theorem u8_inf : (Try.prog.info? 5).map (fun i => (i.zero, i.size, i.bytes)) = some (some (.int .u8 0), 1, 1) := by kernel_rfl

set_option maxRecDepth 100000 in
set_option maxHeartbeats 400000 in
theorem new_yes (w : World) (base cap : Nat) (h1 : base % 16 = 0) (h2 : base ≤ 4611686018427387904) (h3 : 1024 ≤ cap) (h4 : cap ≤ 16384) :
    Calls Try.prog 20 #[.int .u64 (base : Int), .int .i64 (cap : Int)] w fun e w' => e = .returned (.pointer (some ⟨w.heap.size, 0, none⟩)) ∧ Ar w' 73 w.heap.size base cap none 0 [] ∧ Below w.heap.size w w' := by
  have s1 : ((base : Int) % 16 != 0) = false := by rw [bne_eq_false_iff_eq]; omega
  go_enter Try.func20, Try.ntmps20
  go_wp2
  go_ret
  exact ⟨rfl, ⟨heap_alloc_new w _, World.ownsRow_nil _ _ _ _⟩, (Below.refl _ _).alloc (Nat.le_refl _) _⟩

set_option maxRecDepth 100000 in
set_option maxHeartbeats 400000 in
theorem new_no (w : World) (base : Nat) (cap : Int) (hb : base < 18446744073709551616) (hc : -9223372036854775808 ≤ cap ∧ cap ≤ 9223372036854775807) (h : base % 16 ≠ 0 ∨ 4611686018427387904 < base ∨ cap < 1024 ∨ 16384 < cap) :
    Calls Try.prog 20 #[.int .u64 (base : Int), .int .i64 cap] w fun e w' => e = .returned (.pointer none) ∧ w = w' := by
  obtain ⟨hc1, hc2⟩ := hc
  by_cases h1 : base % 16 = 0
  · have s1 : ((base : Int) % 16 != 0) = false := by rw [bne_eq_false_iff_eq]; omega
    by_cases h2 : 4611686018427387904 < base
    · clear h h1
      go_enter Try.func20, Try.ntmps20
      go_wp2
      go_ret
      exact ⟨rfl, rfl⟩
    · by_cases h3 : cap < 1024
      · clear h h1
        go_enter Try.func20, Try.ntmps20
        go_wp2
        go_ret
        exact ⟨rfl, rfl⟩
      · have h4 : 16384 < cap := by omega
        clear h h1
        go_enter Try.func20, Try.ntmps20
        go_wp2
        go_ret
        exact ⟨rfl, rfl⟩
  · have s1 : ((base : Int) % 16 != 0) = true := by rw [bne_iff_ne]; omega
    clear h h1
    go_enter Try.func20, Try.ntmps20
    go_wp2
    go_ret
    exact ⟨rfl, rfl⟩

section
variable {w : World} {g base cap c : Nat} {A : Option Addr} {bs : List UInt8}
set_option maxRecDepth 100000 in
set_option maxHeartbeats 400000 in
theorem grow_neg (n : Int) (hn : n < 0) :
    Calls Try.prog 21 #[.pointer (some ⟨g, 0, none⟩), .int .i64 n] w fun e w' => e = .returned (.iface 56 (.int .i64 1)) ∧ w = w' := by
  go_enter Try.func21, Try.ntmps21
  go_wp2
  go_ret
  exact ⟨rfl, rfl⟩

set_option maxRecDepth 100000 in
set_option maxHeartbeats 400000 in
theorem grow_full (h : Ar w 73 g base cap A c bs) (n : Nat) (hl : bs.length ≤ cap) (hcap : cap ≤ 16384) (hn : cap < bs.length + n) :
    Calls Try.prog 21 #[.pointer (some ⟨g, 0, none⟩), .int .i64 (n : Int)] w fun e w' => e = .returned (.iface 56 (.int .i64 5)) ∧ ∃ k, w' = w.drewN k := by
  have c1 := h.c1
  have c2 := h.c2
  have s1 : IntKind.i64.wrap ((cap : Int) - (bs.length : Int)) = (cap : Int) - (bs.length : Int) := IntWalk.i64_in _ (by omega)
  have s2 : decide ((cap : Int) - (bs.length : Int) < (n : Int)) = true := decide_eq_true (by omega)
  go_enter Try.func21, Try.ntmps21
  go_wp2
  go_quiet (fail)
  go_wp2
  go_ret
  exact ⟨rfl, _, rfl⟩

set_option maxRecDepth 100000 in
set_option maxHeartbeats 400000 in
theorem grow_ok (h : Ar w 73 g base cap A c bs) (n : Nat) (hl : bs.length ≤ cap) (hcap : cap ≤ 16384) (hn : bs.length + n ≤ cap) :
    Calls Try.prog 21 #[.pointer (some ⟨g, 0, none⟩), .int .i64 (n : Int)] w fun e w' => e = .returned .nilIface ∧ Became 73 g base cap A (bs ++ List.replicate n 0) w w' := by
  obtain ⟨bs', hbs'⟩ : ∃ bs', bs ++ List.replicate n 0 = bs' := ⟨_, rfl⟩
  rw [hbs']
  have HB := Lib.hid hbs'
  clear hbs'
  have c1 := h.c1
  have c2 := h.c2
  have s1 : IntKind.i64.wrap ((cap : Int) - (bs.length : Int)) = (cap : Int) - (bs.length : Int) := IntWalk.i64_in _ (by omega)
  have s2 : decide ((cap : Int) - (bs.length : Int) < (n : Int)) = false := decide_eq_false (by omega)
  go_enter Try.func21, Try.ntmps21
  go_wp2
  go_quiet (fail)
  clear s1 s2
  obtain ⟨A', c', w2, hr, hown, hgr, hA⟩ := run_append_zeros (P := Try.prog) (w.drewN nq) 23 3 23 5 .i64 Try.underlying23 Try.underlying3 u8_inf 0 A c bs h.own n (by omega) (Nat.zero_le _)
  have e1 : bs.length + n = bs'.length := by rw [← HB.out]; simp
  rw [e1] at hr hown
  rw [HB.out] at hown
  obtain ⟨d2, f2, har, htc⟩ := (h.drewN nq).laid (by decide) hgr hown
  have hfin : Became 73 g base cap A bs' w (w2.setCell ⟨g, 2, none⟩ (.slice A' bs'.length c')) :=
    ⟨A', c', har, ⟨htc.os, htc.tape, htc.output, htc.size, htc.block⟩, hA.imp id fun e a ha => by rw [e] at ha; cases ha; exact Nat.le_refl _⟩
  have HR := Lib.hid hr
  have HF := Lib.hid hfin
  clear hr hfin hown hgr hA har htc e1 HB hn hl hcap
  go_wp2_with (at_builtin; refine Lib.wpList_append_run _ rfl (.tmp 25) (.tmp 26) 23 3 rfl _ _ rfl rfl _ _ HR.out ?_)
  go_ret
  exact ⟨rfl, HF.out⟩
end

end Go.Proofs.Ytodbakpjibcmiaa
