/- Texts of mine, joined: Law16a. -/
import Derived.Test.YtbemaoncakcnjaaK12

/- The head of layer 16's laws; the walk of RestoreBack (genlaw16a.py). -/
namespace Go.Proofs.Ytbemaoncakcnjaa
open Go.RowKit

theorem few16_parts {l : List Rk} {d : List (List UInt8)} (h : fewI l d = true) : l.length ≤ 600 ∧ d.length ≤ 600 ∧ d.flatten.length ≤ 40000 := by
  unfold fewI at h
  simp only [Bool.and_eq_true] at h
  exact ⟨of_decide_eq_true h.1, of_decide_eq_true h.2.1, of_decide_eq_true h.2.2.2⟩
theorem layOf_facts {n : Int} {l : List Rk} {d : List (List UInt8)} {out : List UInt8} (h : mayI n l d = true) (ho : layOf n l d = some out) : ∃ N : Nat, n = (N : Int) ∧ 184 ≤ N ∧ N ≤ 16384 ∧ checkB out = true ∧ walkB out = some (l.map toB) ∧ out.length = N ∧ ofD out (l.map toB) = d ∧ l = (l.map toB).map toR := by
  have hlo : lenOk n = true := by unfold mayI at h; rw [Bool.and_eq_true] at h; exact h.1
  have hlB := (lenOk_iff n).1 hlo
  obtain ⟨N, rfl⟩ : ∃ N : Nat, n = (N : Int) := ⟨n.toNat, by omega⟩
  have hrow : rowOk (N : Int) 184 false l = true := by unfold mayI at h; simp only [Bool.and_eq_true] at h; exact h.2.1
  obtain ⟨out', _, _, hre, h1, h2, h3, h4⟩ := image_laid h
  unfold layOf at ho
  rw [Int.toNat_natCast, hre] at ho
  injection ho with ho
  subst ho
  exact ⟨N, rfl, by omega, by omega, h1, h2, h3, h4, (row_tile (o := 184) hrow).2.1⟩
set_option maxRecDepth 100000 in
set_option maxHeartbeats 1000000 in
theorem up16_any (w : World) :
    Calls Try.prog 5 #[] w fun e w' => e = .returned (.bool true) ∧ Below w.heap.size w w' := by
  have h0 : mayI 184 [] [] = true := by kernel_rfl
  have h1 := rest_ok w 184 (by omega) none none 0 0 [] [] (fun h => absurd h (by simp)) (fun h => absurd h (by simp)) (by simp) (by simp) 48 (by omega) 2048 (by omega) h0 (by omega) (by omega) (by omega) (by omega) (by omega)
  have h2 := fun W => rest_noar W 184 (by omega) none none 0 0 [] [] (fun h => absurd h (by simp)) (fun h => absurd h (by simp)) (by simp) (by simp) 48 (by omega) 1 (by omega) h0 (.inr (.inr (.inl (by omega))))
  dsimp only [List.length_nil] at h1 h2
  have H1 := Lib.hid h1
  have H2 := Lib.hid h2
  have H0 := Lib.hid h0
  clear h1 h2 h0
  go_enter Try.func5, Try.ntmps5
  go_wp2_with fail
  refine H1.out.mono ?_
  rintro e w2 ⟨out, H, q, g, A, c, hlay, rfl, hph, _, _, _, hb2⟩
  obtain ⟨N, hN, _, _, _, hwk, hol, _, _⟩ := layOf_facts H0.out hlay
  have hN2 : N = 184 := by omega
  subst hN2
  have hblk : H.blks = [] := by
    have := hph.rd.rt.walk
    rw [hwk] at this
    injection this with this
    exact this.symm
  have hstat : stV H.stats = .agg #[.int .i64 0, .int .i64 0, .int .i64 0, .int .i64 184, .int .i64 2048] := by
    unfold Hp.stats
    rw [hph.rd.rt.lenE, hph.cp, hblk, hol]
    rfl
  have HPH := Lib.hid hph
  have HB2 := Lib.hid hb2
  have HST := Lib.hid hstat
  clear hph hb2 hstat hblk hlay hwk hol hN H1
  go_wp2_with fail
  refine (H2.out w2).mono ?_
  rintro e w3 ⟨rfl, hb3⟩
  have HPH3 := Lib.hid (HPH.out.below hb3)
  have HB3 := Lib.hid (HB2.out.trans (hb3.mono HB2.out.size))
  clear hb3
  have hS := hstats_prog HPH3.out
  rw [HST.out] at hS
  have HS := Lib.hid hS
  clear hS
  go_wp2_with fail
  refine HS.out.mono ?_
  rintro e w4 ⟨rfl, hb4⟩
  have HB4 := Lib.hid (HB3.out.trans (hb4.mono HB3.out.size))
  clear hb4
  go_wp2_with fail
  refine (code_err w4 1 (by omega) (by omega)).mono ?_
  rintro e w5 ⟨rfl, rfl⟩
  go_wp2
  go_ret
  exact ⟨rfl, HB4.out⟩
theorem like16 (w : World) (n : Int) (A1 A2 : Option Addr) (a1 b1 a2 b2 : Nat) :
    Calls Try.prog 9 #[.agg #[.int .i64 n, .slice A1 a1 b1, .slice A2 a2 b2]] w fun e w' => e = .returned (.agg #[.int .i64 n, .slice A1 a1 b1, .slice A2 a2 b2]) ∧ Below w.heap.size w w' := like_any w n A1 A2 a1 b1 a2 b2
end Go.Proofs.Ytbemaoncakcnjaa
