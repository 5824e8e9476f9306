/- The program's images: May, the whole. -/
import Derived.Test.YtlhahibdddcpfaaImg2
namespace Go.Proofs.Ytlhahibdddcpfaa
open Go.RowKit

theorem u64N_cast (n : Int) : ((u64N n : Nat) : Int) = n % 18446744073709551616 := by unfold u64N; omega
set_option maxRecDepth 100000 in
set_option maxHeartbeats 1000000 in
theorem immay_any (w : World) (n : Int) (hn : -9223372036854775808 ≤ n ∧ n ≤ 9223372036854775807) (A1 A2 : Option Addr) (k1 k2 : Nat) (l : List Rk) (d : List (List UInt8)) (hr : RkRd w w.heap.size A1 l) (hd : DtRd w w.heap.size A2 d) (hl : l.length ≤ 1000000) (hdl : d.length ≤ 1000000) (y : Bool) (hy : mayI n l d = y) :
    Calls Try.prog 11 #[imV n A1 l.length k1 A2 d.length k2] w fun e w' => e = .returned (.bool y) ∧ Below w.heap.size w w' := by
  unfold imV
  obtain ⟨w1, hw1⟩ : ∃ w1, w.alloc (.cells #[.int .i64 n, .slice A1 l.length k1, .slice A2 d.length k2] 27) = w1 := ⟨_, rfl⟩
  have hb1 : Below w.heap.size w w1 := by rw [← hw1]; exact (Below.refl _ _).alloc (Nat.le_refl _) _
  have n1 : w1.heap[w.heap.size]? = some (.cells #[.int .i64 n, .slice A1 l.length k1, .slice A2 d.length k2] 27 (0, 0)) := by rw [← hw1]; exact heap_alloc_new w _
  obtain ⟨d0, d1, d2⟩ := rk_cells n1
  have hl1 := heap_lt1 n1
  have HLEN : Hid (∀ W, Calls Try.prog 23 #[.int .u64 (n % 18446744073709551616)] W fun e w' => e = .returned (.bool (lenOk n)) ∧ W = w') := fun W => by
    have h := imlen_any W (u64N n) (by unfold u64N; omega) (lenOk n) (lenOk_u64 n hn)
    rw [u64N_cast] at h
    exact h
  have HB1 := Lib.hid hb1
  have HR := Lib.hid hr
  have HD := Lib.hid hd
  have HY := Lib.hid hy
  obtain ⟨ll, hll⟩ : ∃ ll, l.length = ll := ⟨_, rfl⟩
  obtain ⟨dl, hdll⟩ : ∃ dl, d.length = dl := ⟨_, rfl⟩
  have HROW : Hid (lenOk n = true → Calls Try.prog 24 #[.slice A1 ll k1, .int .i64 n] w1 fun e w' => e = .returned (.bool (rowOk n 184 false l)) ∧ Below w1.heap.size w1 w') := fun hk => by
    have h3 := (lenOk_iff n).1 hk
    have := imrow_any w1 A1 k1 l ((hr.below hb1).more hb1.size) hl n ⟨h3.1, h3.2.1⟩ _ rfl
    rw [hll] at this
    exact this
  have HDAT : Hid (∀ W, Below w.heap.size w W → rowOk n 184 false l = true → Calls Try.prog 25 #[.slice A2 dl k2, .slice A1 ll k1] W fun e w' => e = .returned (.bool (datOk l d)) ∧ Below W.heap.size W w') := fun W hW hk => by
    have := imdat_any W A1 A2 k1 k2 l d ((hr.below hW).more hW.size) ((hd.below hW).more hW.size) hl hdl (rowOk_sz hk) _ rfl
    rw [hll, hdll] at this
    exact this
  rw [hll] at d1
  rw [hdll] at d2
  rw [hll, hdll]
  rw [hll, hdll] at hw1 n1
  have HN1 := Lib.hid n1
  have HW1 := Lib.hid hw1
  clear hw1 hb1 n1 hr hd hy hll hdll
  cases hlo : lenOk n with
  | false =>
    have HF : Hid (false = y) := (show false = y by rw [← HY.out]; unfold mayI; rw [hlo]; rfl)
    rw [hlo] at HLEN
    clear hlo
    go_enter Try.func11, Try.ntmps11
    go_wp2_with (first | (rw [HW1.out]) | fail)
    refine (HLEN.out _).mono ?_
    rintro e w2 ⟨rfl, rfl⟩
    go_wp2
    go_ret
    exact ⟨ret_bool HF.out, HB1.out⟩
  | true =>
    have HROW2 := Lib.hid (HROW.out hlo)
    rw [hlo] at HLEN
    cases hro : rowOk n 184 false l with
    | false =>
      have HF : Hid (false = y) := (show false = y by rw [← HY.out]; unfold mayI; rw [hlo, hro]; rfl)
      rw [hro] at HROW2
      clear hlo hro
      go_enter Try.func11, Try.ntmps11
      go_wp2_with (first | (rw [HW1.out]) | fail)
      refine (HLEN.out _).mono ?_
      rintro e w2 ⟨rfl, rfl⟩
      go_wp2_with fail
      refine HROW2.out.mono ?_
      rintro e w2 ⟨rfl, hb2⟩
      have HF2 := Lib.hid (HB1.out.trans (hb2.mono HB1.out.size))
      clear hb2
      go_wp2
      go_ret
      exact ⟨ret_bool HF.out, HF2.out⟩
    | true =>
      have HDAT2 := Lib.hid (fun W hW => HDAT.out W hW hro)
      have HF : Hid (datOk l d = y) := (show datOk l d = y by rw [← HY.out]; unfold mayI; rw [hlo, hro]; rfl)
      rw [hro] at HROW2
      clear hlo hro
      go_enter Try.func11, Try.ntmps11
      go_wp2_with (first | (rw [HW1.out]) | fail)
      refine (HLEN.out _).mono ?_
      rintro e w2 ⟨rfl, rfl⟩
      go_wp2_with fail
      refine HROW2.out.mono ?_
      rintro e w2 ⟨rfl, hb2⟩
      have hb02 := HB1.out.trans (hb2.mono HB1.out.size)
      have HD3 := Lib.hid (HDAT2.out w2 hb02)
      have n2 := (hb2.block _ (heap_lt1 HN1.out)).trans HN1.out
      obtain ⟨e0, e1, e2⟩ := rk_cells n2
      have hl2 := heap_lt1 n2
      have HF2 := Lib.hid hb02
      clear hb2 hb02 n2
      go_wp2_with fail
      refine HD3.out.mono ?_
      rintro e w3 ⟨rfl, hb3⟩
      have HF3 := Lib.hid (HF2.out.trans (hb3.mono HF2.out.size))
      clear hb3
      go_wp2
      go_ret
      exact ⟨ret_bool HF.out, HF3.out⟩
end Go.Proofs.Ytlhahibdddcpfaa
