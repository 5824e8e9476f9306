/- The contracts of the document's own arena: Grow, There, Load. -/
import Derived.Test.YtbalmacabojbpaaMore
namespace Go.Proofs.Ytbalmacabojbpaa
open Go.RowKit

section
variable {w : World} {g base cap c : Nat} {A : Option Addr} {bs : List UInt8}
set_option maxRecDepth 100000 in
set_option maxHeartbeats 400000 in
theorem refgrow_neg (n : Int) (hn : n < 0) :
    Calls Try.prog 33 #[.pointer (some ⟨g, 0, none⟩), .int .i64 n] w fun e w' => e = .returned (.int .i64 1) ∧ w = w' := by
  go_enter Try.func33, Try.ntmps33
  go_wp2
  go_ret
  exact ⟨rfl, rfl⟩

set_option maxRecDepth 100000 in
set_option maxHeartbeats 400000 in
theorem refgrow_full (h : Ar w 31 g base cap A c bs) (n : Nat) (hl : bs.length ≤ cap) (hcap : cap ≤ 16384) (hn : cap < bs.length + n) :
    Calls Try.prog 33 #[.pointer (some ⟨g, 0, none⟩), .int .i64 (n : Int)] w fun e w' => e = .returned (.int .i64 5) ∧ ∃ k, w' = w.drewN k := by
  have c1 := h.c1
  have c2 := h.c2
  have s1 : IntKind.i64.wrap ((cap : Int) - (bs.length : Int)) = (cap : Int) - (bs.length : Int) := IntWalk.i64_in _ (by omega)
  have s2 : decide ((cap : Int) - (bs.length : Int) < (n : Int)) = true := decide_eq_true (by omega)
  go_enter Try.func33, Try.ntmps33
  go_wp2
  go_quiet (fail)
  go_wp2
  go_ret
  exact ⟨rfl, _, rfl⟩

set_option maxRecDepth 100000 in
set_option maxHeartbeats 400000 in
theorem refgrow_ok (h : Ar w 31 g base cap A c bs) (n : Nat) (hl : bs.length ≤ cap) (hcap : cap ≤ 16384) (hn : bs.length + n ≤ cap) :
    Calls Try.prog 33 #[.pointer (some ⟨g, 0, none⟩), .int .i64 (n : Int)] w fun e w' => e = .returned (.int .i64 0) ∧ Became 31 g base cap A (bs ++ List.replicate n 0) w w' := by
  obtain ⟨bs', hbs'⟩ : ∃ bs', bs ++ List.replicate n 0 = bs' := ⟨_, rfl⟩
  rw [hbs']
  have HB := Lib.hid hbs'
  clear hbs'
  have c1 := h.c1
  have c2 := h.c2
  have s1 : IntKind.i64.wrap ((cap : Int) - (bs.length : Int)) = (cap : Int) - (bs.length : Int) := IntWalk.i64_in _ (by omega)
  have s2 : decide ((cap : Int) - (bs.length : Int) < (n : Int)) = false := decide_eq_false (by omega)
  go_enter Try.func33, Try.ntmps33
  go_wp2
  go_quiet (fail)
  clear s1 s2
  obtain ⟨A', c', w2, hr, hown, hgr, hA⟩ := run_append_zeros (P := Try.prog) (w.drewN nq) 29 3 29 5 .i64 Try.underlying29 Try.underlying3 u8_inf 0 A c bs h.own n (by omega) (Nat.zero_le _)
  have e1 : bs.length + n = bs'.length := by rw [← HB.out]; simp
  rw [e1] at hr hown
  rw [HB.out] at hown
  obtain ⟨d2, f2, har, htc⟩ := (h.drewN nq).laid (by decide) hgr hown
  have hfin : Became 31 g base cap A bs' w (w2.setCell ⟨g, 2, none⟩ (.slice A' bs'.length c')) :=
    ⟨A', c', har, ⟨htc.os, htc.tape, htc.output, htc.size, htc.block⟩, hA.imp id fun e a ha => by rw [e] at ha; cases ha; exact Nat.le_refl _⟩
  have HR := Lib.hid hr
  have HF := Lib.hid hfin
  clear hr hfin hown hgr hA har htc e1 HB hn hl hcap
  go_wp2_with (at_builtin; refine Lib.wpList_append_run _ rfl (.tmp 23) (.tmp 24) 29 3 rfl _ _ rfl rfl _ _ HR.out ?_)
  go_ret
  exact ⟨rfl, HF.out⟩

set_option maxRecDepth 100000 in
set_option maxHeartbeats 1000000 in
theorem there_yes (h : Ar w 31 g base cap A c bs) (hl : bs.length ≤ 1000000) (x n d : Nat) (hx : x < 18446744073709551616) (h1 : base ≤ x) (hd : x - base = d) (h2 : d + n ≤ bs.length) :
    Calls Try.prog 60 #[.pointer (some ⟨g, 0, none⟩), .int .u64 (x : Int), .int .u64 (n : Int)] w fun e w' => e = .returned (.tuple #[.int .i64 (d : Int), .bool true]) ∧ ∃ k, w' = w.drewN k := by
  have c0 := h.c0
  have c2 := h.c2
  have HD : Hid ((x : Int) - (base : Int) = (d : Int)) := (show _ = _ by omega)
  clear hd
  go_enter Try.func60, Try.ntmps60
  go_wp2_with fail
  have hd := HD.out
  have s0 : decide (x < base) = false := decide_eq_false (by omega)
  have s1 : IntKind.u64.wrap ((x : Int) - (base : Int)) = (d : Int) := (IntWalk.u64_in _ (by omega)).trans HD.out
  have s2 : decide (bs.length < d) = false := decide_eq_false (by omega)
  have s3 : decide (bs.length < n) = false := decide_eq_false (by omega)
  have s4 : IntKind.u64.wrap (bs.length : Int) = (bs.length : Int) := IntWalk.u64_in _ (by omega)
  clear hd
  go_quiet (fail)
  clear s0 s1 s2 s3 s4
  have c0' : (w.drewN nq).cell? ⟨g, 0, none⟩ = some (.int .u64 (base : Int)) := c0
  have c2' : (w.drewN nq).cell? ⟨g, 2, none⟩ = some (.slice A bs.length c) := c2
  have hd := HD.out
  have s5 : decide ((bs.length : Int) - (d : Int) < (n : Int)) = false := decide_eq_false (by omega)
  go_wp2
  go_ret2
  exact ⟨rfl, _, rfl⟩

set_option maxRecDepth 100000 in
set_option maxHeartbeats 1000000 in
theorem there_no (h : Ar w 31 g base cap A c bs) (hl : bs.length ≤ 1000000) (x n : Nat) (hx : x < 18446744073709551616) (hn : n < 18446744073709551616) (h2 : base ≤ x → bs.length < x - base + n) :
    Calls Try.prog 60 #[.pointer (some ⟨g, 0, none⟩), .int .u64 (x : Int), .int .u64 (n : Int)] w fun e w' => e = .returned (.tuple #[.int .i64 0, .bool false]) ∧ ∃ k, w' = w.drewN k := by
  have c0 := h.c0
  have c2 := h.c2
  have s4 : IntKind.u64.wrap (bs.length : Int) = (bs.length : Int) := IntWalk.u64_in _ (by omega)
  have S4 := Lib.hid s4
  clear s4
  by_cases h1 : base ≤ x
  · have h2 := h2 h1
    obtain ⟨d, hd⟩ : ∃ d, x - base = d := ⟨_, rfl⟩
    rw [hd] at h2
    have HD : Hid ((x : Int) - (base : Int) = (d : Int)) := (show _ = _ by omega)
    clear hd
    have S1 : Hid (IntKind.u64.wrap ((x : Int) - (base : Int)) = (d : Int)) := (IntWalk.u64_in _ (by have := HD.out; omega)).trans HD.out
    have S0 : Hid (decide (x < base) = false) := decide_eq_false (by omega)
    by_cases h3 : bs.length < d
    · have S2 : Hid (decide (bs.length < d) = true) := decide_eq_true h3
      go_enter Try.func60, Try.ntmps60
      go_wp2_with fail
      have s0 := S0.out
      have s1 := S1.out
      have s2 := S2.out
      have s4 := S4.out
      go_quiet (fail)
      clear s0 s1 s2 s4
      go_wp2
      go_ret2
      exact ⟨rfl, _, rfl⟩
    · have S2 : Hid (decide (bs.length < d) = false) := decide_eq_false h3
      by_cases h4 : bs.length < n
      · have S3 : Hid (decide (bs.length < n) = true) := decide_eq_true h4
        go_enter Try.func60, Try.ntmps60
        go_wp2_with fail
        have s0 := S0.out
        have s1 := S1.out
        have s2 := S2.out
        have s3 := S3.out
        have s4 := S4.out
        go_quiet (fail)
        clear s0 s1 s2 s3 s4
        go_wp2
        go_ret2
        exact ⟨rfl, _, rfl⟩
      · have S3 : Hid (decide (bs.length < n) = false) := decide_eq_false h4
        have S5 : Hid (decide ((bs.length : Int) - (d : Int) < (n : Int)) = true) := decide_eq_true (by omega)
        go_enter Try.func60, Try.ntmps60
        go_wp2_with fail
        have s0 := S0.out
        have s1 := S1.out
        have s2 := S2.out
        have s3 := S3.out
        have s4 := S4.out
        go_quiet (fail)
        clear s0 s1 s2 s3 s4
        have c0' : (w.drewN nq).cell? ⟨g, 0, none⟩ = some (.int .u64 (base : Int)) := c0
        have c2' : (w.drewN nq).cell? ⟨g, 2, none⟩ = some (.slice A bs.length c) := c2
        have hd := HD.out
        have s5 := S5.out
        go_wp2
        go_ret2
        exact ⟨rfl, _, rfl⟩
  · have S0 : Hid (decide (x < base) = true) := decide_eq_true (by omega)
    clear h2
    go_enter Try.func60, Try.ntmps60
    go_wp2_with fail
    have s0 := S0.out
    have s4 := S4.out
    go_quiet (fail)
    clear s0 s4
    go_wp2
    go_ret2
    exact ⟨rfl, _, rfl⟩
end

end Go.Proofs.Ytbalmacabojbpaa
