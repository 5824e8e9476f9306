/- The walk of the law WordBack: it returns true and writes nothing that was there. -/
import Derived.Test.YtcpipgjljiljnaaWalk5
import Derived.Test.YtcpipgjljiljnaaAppend
import Derived.WalkSpells
namespace Go.Proofs.Ytcpipgjljiljnaa
open Go.RowKit

theorem all8 (bs cs : List UInt8) (n v : Nat) (hn : bs.length = n) (hv : v < 18446744073709551616) : numB (((bs ++ lowB 8 v ++ cs).drop n).take 8) = v := by
  subst hn
  rw [List.append_assoc, List.drop_left, List.take_append_of_le_length (by rw [lowB_length]; omega), List.take_of_length_le (by rw [lowB_length]; omega), numB_lowB]
  exact Nat.mod_eq_of_lt hv
theorem all4 (bs cs : List UInt8) (n v : Nat) (hn : bs.length = n) : numB (((bs ++ lowB 8 v ++ cs).drop n).take 4) = v % 4294967296 := by
  subst hn
  rw [List.append_assoc, List.drop_left, List.take_append_of_le_length (by rw [lowB_length]; omega), lowB_take _ _ _ (by omega), numB_lowB]
theorem all44 (bs cs : List UInt8) (n v : Nat) (hn : bs.length = n) (hv : v < 18446744073709551616) : numB (((bs ++ lowB 8 v ++ cs).drop (n + 4)).take 4) = v / 4294967296 := by
  subst hn
  rw [List.append_assoc, ← List.drop_drop, List.drop_left, List.drop_append_of_le_length (by rw [lowB_length]; omega), List.take_append_of_le_length (by simp [lowB_length]), lowB_drop _ _ _ (by omega), lowB_take _ _ _ (by omega), numB_lowB]
  exact Nat.mod_eq_of_lt (by omega)

set_option maxRecDepth 100000 in
set_option maxHeartbeats 1000000 in
theorem back_long (A A' : Option Addr) (n c m c' v p : Nat) (w : World) (hl : 1000 < n ∨ 1000 < m) (hn : n ≤ maxLen) (hm : m ≤ maxLen) :
    Calls Try.prog 4 #[.slice A n c, .slice A' m c', .int .u64 (v : Int), .int .u64 (p : Int)] w fun e w' => e = .returned (.bool true) ∧ Below w.heap.size w w' := by
  unfold maxLen at hn hm
  by_cases h1 : 1000 < n
  · go_enter Try.func4, Try.ntmps4
    go_wp2_with fail
    refine (up_any _).mono ?_
    rintro e w1 ⟨rfl, hb⟩
    go_wp2
    go_ret
    exact ⟨rfl, hb⟩
  · have h2 : 1000 < m := by omega
    go_enter Try.func4, Try.ntmps4
    go_wp2_with fail
    refine (up_any _).mono ?_
    rintro e w1 ⟨rfl, hb⟩
    go_wp2
    go_ret
    exact ⟨rfl, hb⟩

set_option maxRecDepth 100000 in
set_option maxHeartbeats 4000000 in
theorem back_short (A A' : Option Addr) (n c m c' v p : Nat) (bs cs : List UInt8) (w : World) (hn : n ≤ 1000) (hm : m ≤ 1000) (h : Rd w w.heap.size A n bs) (h' : Rd w w.heap.size A' m cs) (hc : n ≤ c) (hz : A = none → c = 0) (hz' : A' = none → c' = 0) (hv : v < 18446744073709551616) (hp : p < 18446744073709551616) :
    Calls Try.prog 4 #[.slice A n c, .slice A' m c', .int .u64 (v : Int), .int .u64 (p : Int)] w fun e w' => e = .returned (.bool true) ∧ Below w.heap.size w w' := by
  go_enter Try.func4, Try.ntmps4
  go_wp2_with fail
  refine (up_any _).mono ?_
  rintro e w1 ⟨rfl, hb⟩
  have r1 := h.below hb
  have r1' := h'.below hb
  have own1 : (w1.alloc (.cells #[] 5)).ownsRow w1.heap.size 5 1 (.slice (some ⟨w1.heap.size, 0, none⟩) 0 0) 0 (([] : List UInt8).map bv) := World.ownsRow_lit w1 _ 0 (Nat.le_refl _) (by unfold maxLen; omega) rfl
  go_wp2_with (first
    | (at_builtin; go_must (refine append_bytes rfl (.tmp 29) (.tmp 30) 22 5 rfl Try.underlying22 u8_info w1.heap.size (.slice (some ⟨w1.heap.size, 0, none⟩) 0 0) 0 [] rfl own1 _ A n c bs rfl (r1.alloc hb.size _) hz (by omega) (by simp) ?_); intro x2 w2 own2 hb2 gr2))
  have hb12 : Below w1.heap.size w1 w2 := ((Below.refl _ _).alloc (Nat.le_refl _) _).trans hb2
  have own2' : w2.ownsRow w1.heap.size 5 1 x2 n (bs.map bv) := by simpa using own2
  clear own1 own2 gr2 hb2
  refine (put_any v _ hv).mono ?_
  rintro e w3 ⟨rfl, hf3, hb3⟩
  have own3 := own_below own2' hb3
  have r3 : Rd w3 w3.heap.size (some ⟨w2.heap.size, 0, none⟩) 8 (lowB 8 v) := hf3.reads
  have hb13 : Below w1.heap.size w1 w3 := hb12.trans (hb3.mono hb12.size)
  have hb03 : Below w.heap.size w w3 := hb.trans (hb13.mono hb.size)
  clear own2' hf3 hb3 hb12
  go_wp2_with (first
    | (at_builtin; refine append_bytes rfl (.tmp 31) (.tmp 33) 22 5 rfl Try.underlying22 u8_info w1.heap.size x2 n bs rfl own3 _ _ 8 8 (lowB 8 v) rfl r3 (by simp) (by omega) hb13.size ?_; intro x4 w4 own4 hb4 gr4; have hb14 := hb13.trans hb4; have r4 := h'.below (hb.trans (hb14.mono hb.size)); clear own3 r3 gr4)
    | (at_builtin; go_must (refine append_bytes rfl (.tmp 34) (.tmp 35) 22 5 rfl Try.underlying22 u8_info w1.heap.size x4 (n + 8) (bs ++ lowB 8 v) rfl own4 _ A' m c' cs rfl r4 hz' (by omega) hb14.size ?_); intro x5 w5 own5 hb5 gr5; have hb15 := hb14.trans hb5; clear own4 gr5))
  obtain ⟨g, cap, rfl, hcap, r5⟩ := own_rd own5 (by omega)
  have hbs : bs.length = n := h.1
  have g8 := get_yes (some ⟨g, 0, none⟩) (n + 8 + m) cap _ (bs ++ lowB 8 v ++ cs) n w5 r5 hcap (by omega) (by omega)
  rw [all8 bs cs n v hbs hv] at g8
  have g4 := get4_yes (some ⟨g, 0, none⟩) (n + 8 + m) cap _ (bs ++ lowB 8 v ++ cs) n w5 r5 hcap (by omega) (by omega)
  rw [all4 bs cs n v hbs] at g4
  have g44 := get4_yes (some ⟨g, 0, none⟩) (n + 8 + m) cap _ (bs ++ lowB 8 v ++ cs) (n + 4) w5 r5 hcap (by omega) (by omega)
  rw [all44 bs cs n v hbs hv] at g44
  obtain ⟨lo, hlo⟩ : ∃ lo, v % 4294967296 = lo := ⟨_, rfl⟩
  obtain ⟨hi, hhi⟩ : ∃ hi, v / 4294967296 = hi := ⟨_, rfl⟩
  rw [hlo] at g4
  rw [hhi] at g44
  have blo : lo < 4294967296 := by omega
  have bhi : hi < 4294967296 := by omega
  have hsum : ((hi : Int) * 4294967296 + (lo : Int) != (v : Int)) = false := by rw [bne_eq_false_iff_eq]; omega
  have rb := h.below (hb.trans (hb15.mono hb.size))
  have hb05 : Below w.heap.size w w5 := hb.trans (hb15.mono hb.size)
  have G8 := Lib.hid g8
  have G4 := Lib.hid g4
  have G44 := Lib.hid g44
  clear g8 g4 g44 hlo hhi hbs own5 r5 r1 r1' r4 h h' hb4 hb5 hb13 hb14 hb15 hb03
  refine G8.out.mono ?_
  rintro e w6 ⟨rfl, rfl⟩
  go_wp2_with fail
  refine G4.out.mono ?_
  rintro e w6 ⟨rfl, rfl⟩
  go_wp2_with fail
  rw [show ((n : Int) + 4) = ((n + 4 : Nat) : Int) from by omega]
  refine G44.out.mono ?_
  rintro e w6 ⟨rfl, rfl⟩
  clear G8 G4 G44
  go_wp2_with fail
  refine (put_any v _ hv).mono ?_
  rintro e w6 ⟨rfl, _, hb6⟩
  have rb6 := rb.below (hb6.mono hb05.size)
  have hb06 : Below w.heap.size w w6 := hb05.trans (hb6.mono hb05.size)
  clear rb hb05 hb6 hsum
  go_wp2_with fail
  by_cases h8 : p + 8 ≤ n
  · have rs : ∃ b off, A = some ⟨b, off, none⟩ := by obtain ⟨b, off, e, _⟩ := rb6.2 (by omega); exact ⟨b, off, e⟩
    obtain ⟨b, off, rfl⟩ := rs
    have rs := rb6.sub p 8 h8
    have hX : lowB 8 (numB ((bs.drop p).take 8)) = (bs.drop p).take 8 := by
      have := lowB_numB ((bs.drop p).take 8)
      rwa [rs.1] at this
    have hX64 := numB_lt64 ((bs.drop p).take 8) (by rw [rs.1]; omega)
    refine (get_yes _ n c _ bs p _ rb6 hc (by omega) h8).mono ?_
    rintro e w7 ⟨rfl, rfl⟩
    obtain ⟨X, hXe⟩ : ∃ X, numB ((bs.drop p).take 8) = X := ⟨_, rfl⟩
    obtain ⟨ys, hys⟩ : ∃ ys, (bs.drop p).take 8 = ys := ⟨_, rfl⟩
    rw [hXe] at hX hX64 ⊢
    rw [hys] at hX rs
    have HX := Lib.hid hX
    clear hX hXe hys rb6
    have hd : decide ((p : Int) ≤ (n : Int) - 8) = true := decide_eq_true (by omega)
    go_wp2_with fail
    refine wp_region_segs [([0, 1, 2, 5, 6, 7, 8, 9, 10, 11, 12], 3)] [4, 13, 14, 15] (by kernel_rfl) (by kernel_rfl) (by kernel_rfl) (fun _ _ _ _ _ h => h) ?_
    have rs' : Rd w6.drew w6.drew.heap.size (some ⟨b, off + p, none⟩) 8 ys := (rs.more hb06.size).drew
    have c6 := fun c => conv_later rs' c
    refine segs_cons (l := ?seg1) ?hseg1 ?_
    case hseg1 => simp only [pick, List.getElem?_toArray, List.getElem?_cons_succ, List.getElem?_cons_zero]; rfl
    repeat (go_big_quiet_step (fail))
    refine wpQuiet_nil ?_
    clear c6 rs'
    refine seg_call (vs := #[.int .u64 (X : Int)]) Try.call9 rfl rfl rfl (R := fun r w' => r = .slice (some ⟨w6.heap.size, 0, none⟩) 8 8 ∧ Rd w' w'.heap.size (some ⟨w6.heap.size, 0, none⟩) 8 (lowB 8 X)) ((put_any X _ hX64).mono ?_) ?_
    · rintro e w' ⟨rfl, hf, hb⟩
      exact ⟨_, rfl, hb, rfl, hf.reads⟩
    rintro r w7 hb7 ⟨rfl, hr7⟩
    rw [HX.out] at hr7
    simp only [Act.put, List.setIfInBounds_toArray, List.set_cons_zero, List.set_cons_succ]
    have c7 := fun c => conv_later hr7 c
    refine segs_nil (l := ?seg2) ?hseg2 ?_
    case hseg2 => simp only [pick, List.getElem?_toArray, List.getElem?_cons_succ, List.getElem?_cons_zero]; rfl
    repeat (go_big_quiet_step (fail))
    refine wpQuiet_nil ?_
    clear c7
    go_wp2
    go_ret
    exact ⟨rfl, (Below.drew hb06).trans (Below.mono hb7 hb06.size)⟩
  · have h8' : n < p + 8 := by omega
    refine (get_no _ n c p _ (by omega) h8').mono ?_
    rintro e w7 ⟨rfl, rfl⟩
    by_cases h9 : n < 8
    · go_wp2
      go_ret
      exact ⟨rfl, hb06⟩
    · go_wp2
      go_ret
      exact ⟨rfl, hb06⟩
end Go.Proofs.Ytcpipgjljiljnaa
