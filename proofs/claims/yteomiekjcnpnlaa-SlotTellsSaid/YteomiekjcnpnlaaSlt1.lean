/- The document's records: PutRec (genslot1.py). -/
import Derived.Test.YteomiekjcnpnlaaImg6
import Derived.Test.YteomiekjcnpnlaaImgD
import Derived.Test.YteomiekjcnpnlaaZeros
namespace Go.Proofs.Yteomiekjcnpnlaa
open Go.RowKit

def slMark : List UInt8 := [83, 76, 79, 84, 0, 0, 0, 0]
/-- The first 28 bytes. -/
def slHead (g n s : Nat) : List UInt8 := slMark ++ lowB 8 g ++ lowB 8 n ++ lowB 4 s
def slPut (g n s : Nat) : List UInt8 := slHead g n s ++ sum4 (slHead g n s) ++ List.replicate 480 0
theorem slHead_len (g n s : Nat) : (slHead g n s).length = 28 := by unfold slHead slMark; simp [lowB_length]
theorem slPut_len (g n s : Nat) : (slPut g n s).length = 512 := by unfold slPut; rw [List.length_append, List.length_append, slHead_len, sum4_len, List.length_replicate]
theorem sl_mark (w : World) : (Instr.buildSlice 24 8 #[(0, .int .u8 83), (1, .int .u8 76), (2, .int .u8 79), (3, .int .u8 84), (4, .int .u8 0), (5, .int .u8 0), (6, .int .u8 0), (7, .int .u8 0)]).run Try.prog w = .ok (.slice (some ⟨w.heap.size, 0, none⟩) 8 8) (w.alloc (.cells #[.int .u8 83, .int .u8 76, .int .u8 79, .int .u8 84, .int .u8 0, .int .u8 0, .int .u8 0, .int .u8 0] 5)) := by
  obtain ⟨i0, hi, hz0, hz1, hz2⟩ := info_parts u8_inf4
  refine run_buildSlice w 24 5 8 _ _ i0 _ Try.underlying24 hi hz0 (by omega) (by omega) ?_
  rw [hz1]
  have e : Array.range (8 * 1) = #[0, 1, 2, 3, 4, 5, 6, 7] := by decide
  rw [e]
  simp [Instr.fill, Value.cells]
set_option maxRecDepth 100000 in
set_option maxHeartbeats 2000000 in
theorem rputrec_no (w : World) (g n s : Nat) (hg : g < 18446744073709551616) (hn : n < 18446744073709551616) (_hs : s < 4294967296) (hno : g < 1 ∨ 4611686018427387904 < g ∨ 65536 < n) :
    Calls Try.prog 9 #[.agg #[.int .u64 (g : Int), .int .u64 (n : Int), .int .u32 (s : Int)]] w fun e w' => e = .returned (.slice none 0 0) ∧ Below w.heap.size w w' := by
  obtain ⟨w1, hw1⟩ : ∃ w1, w.alloc (.cells #[.int .u64 (g : Int), .int .u64 (n : Int), .int .u32 (s : Int)] 30) = w1 := ⟨_, rfl⟩
  have hb1 : Below w.heap.size w w1 := by rw [← hw1]; exact (Below.refl _ _).alloc (Nat.le_refl _) _
  have n1 : w1.heap[w.heap.size]? = some (.cells #[.int .u64 (g : Int), .int .u64 (n : Int), .int .u32 (s : Int)] 30 (0, 0)) := by rw [← hw1]; exact heap_alloc_new w _
  obtain ⟨c0, c1, c2⟩ := rk_cells n1
  have hl1 := heap_lt1 n1
  have HW1 := Lib.hid hw1
  have HB1 := Lib.hid hb1
  clear hw1 hb1 n1
  by_cases h1 : g < 1
  · have g1 : decide ((g : Int) < 1) = true := decide_eq_true (by omega)
    go_enter Try.func9, Try.ntmps9
    go_wp2_with (first | (rw [HW1.out]) | fail)
    go_ret
    exact ⟨rfl, HB1.out⟩
  · have g1 : decide ((g : Int) < 1) = false := decide_eq_false (by omega)
    by_cases h2 : 4611686018427387904 < g
    · have g2 : decide ((4611686018427387904 : Int) < (g : Int)) = true := decide_eq_true (by omega)
      go_enter Try.func9, Try.ntmps9
      go_wp2_with (first | (rw [HW1.out]) | fail)
      go_ret
      exact ⟨rfl, HB1.out⟩
    · have g2 : decide ((4611686018427387904 : Int) < (g : Int)) = false := decide_eq_false (by omega)
      have g3 : decide ((65536 : Int) < (n : Int)) = true := decide_eq_true (by omega)
      go_enter Try.func9, Try.ntmps9
      go_wp2_with (first | (rw [HW1.out]) | fail)
      go_ret
      exact ⟨rfl, HB1.out⟩
set_option maxRecDepth 100000 in
set_option maxHeartbeats 4000000 in
theorem rputrec_ok (w : World) (g n s : Nat) (hs : s < 4294967296) (h1 : 1 ≤ g) (h2 : g ≤ 4611686018427387904) (h3 : n ≤ 65536) :
    Calls Try.prog 9 #[.agg #[.int .u64 (g : Int), .int .u64 (n : Int), .int .u32 (s : Int)]] w fun e w' => ∃ A c, e = .returned (.slice A 512 c) ∧ (A = none → c = 0) ∧ w'.ownsRow w.heap.size 5 1 (.slice A 512 c) 512 ((slPut g n s).map bv) ∧ Below w.heap.size w w' := by
  obtain ⟨w1, hw1⟩ : ∃ w1, w.alloc (.cells #[.int .u64 (g : Int), .int .u64 (n : Int), .int .u32 (s : Int)] 30) = w1 := ⟨_, rfl⟩
  have hb1 : Below w.heap.size w w1 := by rw [← hw1]; exact (Below.refl _ _).alloc (Nat.le_refl _) _
  have n1 : w1.heap[w.heap.size]? = some (.cells #[.int .u64 (g : Int), .int .u64 (n : Int), .int .u32 (s : Int)] 30 (0, 0)) := by rw [← hw1]; exact heap_alloc_new w _
  obtain ⟨w2, hw2⟩ : ∃ w2, w1.alloc (.cells #[.int .u8 83, .int .u8 76, .int .u8 79, .int .u8 84, .int .u8 0, .int .u8 0, .int .u8 0, .int .u8 0] 5) = w2 := ⟨_, rfl⟩
  have hb2 : Below w1.heap.size w1 w2 := by rw [← hw2]; exact (Below.refl _ _).alloc (Nat.le_refl _) _
  have ho2 : w2.ownsRow w1.heap.size 5 1 (.slice (some ⟨w1.heap.size, 0, none⟩) 8 8) 8 (slMark.map bv) := by rw [← hw2]; exact World.ownsRow_lit w1 _ 8 (Nat.le_refl _) (by unfold maxLen; omega) rfl
  have g1 : decide ((g : Int) < 1) = false := decide_eq_false (by omega)
  have g2 : decide ((4611686018427387904 : Int) < (g : Int)) = false := decide_eq_false (by omega)
  have g3 : decide ((65536 : Int) < (n : Int)) = false := decide_eq_false (by omega)
  obtain ⟨c0, c1, c2⟩ := rk_cells n1
  have d0 := (hb2.cell (p := ⟨w.heap.size, 0, none⟩) (heap_lt1 n1)).trans c0
  have hl2 := Nat.lt_of_lt_of_le (heap_lt1 n1) hb2.size
  have HC0 := Lib.hid c0
  have HC1 := Lib.hid c1
  have HC2 := Lib.hid c2
  have hl1 := heap_lt1 n1
  have hm := fun W => sl_mark W
  have HW1 := Lib.hid hw1
  have HW2 := Lib.hid hw2
  have HB1 := Lib.hid hb1
  have HN1 := Lib.hid n1
  have HB2 := Lib.hid hb2
  have HO2 := Lib.hid ho2
  have HLOW := Lib.hid (fun W v k (hk : k ≤ 8) (hv : v < 18446744073709551616) => rlow_any v k W hk hv)
  have hlt := hl1
  clear hw1 hw2 hb1 n1 hb2 ho2
  go_enter Try.func9, Try.ntmps9
  go_wp2_with (first | (rw [HW1.out]) | (rw [HW2.out]) | fail)
  clear c0 c1 c2 d0 hl1 hl2 hm g1 g2 g3
  refine (HLOW.out w2 g 8 (by omega) (by omega)).mono ?_
  rintro e w3 ⟨x3, rfl, ho3, hb3⟩
  obtain ⟨A3, c3, rfl, hA3⟩ := own_slc ho3
  have HR3 := Lib.hid (own_reads ho3)
  have HP3 := Lib.hid (own_below HO2.out hb3)
  have HB3 := Lib.hid (HB2.out.trans (hb3.mono HB2.out.size))
  have hs3 := HB3.out.size
  clear ho3 hb3
  go_upto_region 5 with (first
    | (at_builtin; go_must (refine append_bytes rfl (.tmp 18) (.tmp 21) 24 5 rfl Try.underlying24 u8_inf4 w1.heap.size (.slice (some ⟨w1.heap.size, 0, none⟩) 8 8) (8) (slMark) rfl HP3.out _ A3 8 c3 (lowB 8 g) rfl HR3.out hA3 (by omega) hs3 ?_); intro x4 w4 own4 hb4 gr4;
       have HO4 : Hid (w4.ownsRow w1.heap.size 5 1 x4 (8 + 8) ((slMark ++ lowB 8 g).map bv)) := own4; have HB4 : Hid (Below w1.heap.size w1 w4) := HB3.out.trans hb4; clear own4 hb4 gr4)
    | fail)
  have e4 := (HB4.out.cell (p := ⟨w.heap.size, 1, none⟩) hlt).trans HC1.out
  have l4 := Nat.lt_of_lt_of_le hlt HB4.out.size
  go_wp2_with fail
  clear e4 l4 hs3
  refine (HLOW.out w4 n 8 (by omega) (by omega)).mono ?_
  rintro e w5 ⟨x5, rfl, ho5, hb5⟩
  obtain ⟨A5, c5, rfl, hA5⟩ := own_slc ho5
  have HR5 := Lib.hid (own_reads ho5)
  have HP5 := Lib.hid (own_below HO4.out hb5)
  have HB5 := Lib.hid (HB4.out.trans (hb5.mono HB4.out.size))
  have hs5 := HB5.out.size
  clear ho5 hb5
  go_upto_region 6 with (first
    | (at_builtin; go_must (refine append_bytes rfl (.tmp 23) (.tmp 26) 24 5 rfl Try.underlying24 u8_inf4 w1.heap.size x4 (8 + 8) (slMark ++ lowB 8 g) rfl HP5.out _ A5 8 c5 (lowB 8 n) rfl HR5.out hA5 (by omega) hs5 ?_); intro x6 w6 own6 hb6 gr6;
       have HO6 : Hid (w6.ownsRow w1.heap.size 5 1 x6 (8 + 8 + 8) ((slMark ++ lowB 8 g ++ lowB 8 n).map bv)) := own6; have HB6 : Hid (Below w1.heap.size w1 w6) := HB5.out.trans hb6; clear own6 hb6 gr6)
    | fail)
  have e6 := (HB6.out.cell (p := ⟨w.heap.size, 2, none⟩) hlt).trans HC2.out
  have l6 := Nat.lt_of_lt_of_le hlt HB6.out.size
  go_wp2_with fail
  clear e6 l6 hs5
  refine (HLOW.out w6 s 4 (by omega) (by omega)).mono ?_
  rintro e w7 ⟨x7, rfl, ho7, hb7⟩
  obtain ⟨A7, c7, rfl, hA7⟩ := own_slc ho7
  have HR7 := Lib.hid (own_reads ho7)
  have HP7 := Lib.hid (own_below HO6.out hb7)
  have HB7 := Lib.hid (HB6.out.trans (hb7.mono HB6.out.size))
  have hs7 := HB7.out.size
  clear ho7 hb7
  go_upto_region 7 with (first
    | (at_builtin; go_must (refine append_bytes rfl (.tmp 28) (.tmp 32) 24 5 rfl Try.underlying24 u8_inf4 w1.heap.size x6 (8 + 8 + 8) (slMark ++ lowB 8 g ++ lowB 8 n) rfl HP7.out _ A7 4 c7 (lowB 4 s) rfl HR7.out hA7 (by omega) hs7 ?_); intro x8 w8 own8 hb8 gr8;
       have HO8 : Hid (w8.ownsRow w1.heap.size 5 1 x8 (8 + 8 + 8 + 4) ((slMark ++ lowB 8 g ++ lowB 8 n ++ lowB 4 s).map bv)) := own8; have HB8 : Hid (Below w1.heap.size w1 w8) := HB7.out.trans hb8; clear own8 hb8 gr8)
    | fail)
  obtain ⟨A8, c8, rfl, hA8⟩ := own_slc HO8.out
  have HF := Lib.hid (rfour_any w8 A8 (8 + 8 + 8 + 4) c8 _ _ (own_reads HO8.out) (by omega))
  go_wp2_with fail
  refine HF.out.mono ?_
  rintro e w9 ⟨A9, c9, rfl, hA9, ho9, hb9⟩
  have HR9 := Lib.hid (own_reads ho9)
  have HP9 := Lib.hid (own_below HO8.out hb9)
  have HB9 := Lib.hid (HB8.out.trans (hb9.mono HB8.out.size))
  have hs9 := HB9.out.size
  clear ho9 hb9 HF
  go_upto_region 8 with (first
    | (at_builtin; go_must (refine append_bytes rfl (.tmp 34) (.tmp 36) 24 5 rfl Try.underlying24 u8_inf4 w1.heap.size _ (8 + 8 + 8 + 4) (slHead g n s) rfl HP9.out _ A9 4 c9 (sum4 (slHead g n s)) rfl HR9.out hA9 (by omega) hs9 ?_); intro x10 w10 own10 hb10 gr10;
       have HO10 : Hid (w10.ownsRow w1.heap.size 5 1 x10 (8 + 8 + 8 + 4 + 4) ((slHead g n s ++ sum4 (slHead g n s)).map bv)) := own10; have HB10 : Hid (Below w1.heap.size w1 w10) := HB9.out.trans hb10; clear own10 hb10 gr10)
    | fail)
  obtain ⟨A10, c10, rfl, hA10⟩ := own_slc HO10.out
  obtain ⟨P, hP⟩ : ∃ P, slHead g n s ++ sum4 (slHead g n s) = P := ⟨_, rfl⟩
  have hPl : P.length = 8 + 8 + 8 + 4 + 4 := by rw [← hP, List.length_append, slHead_len, sum4_len]
  have hoP := HO10.out
  rw [hP, ← hPl] at hoP
  obtain ⟨A11, c11, w11, hr11, own11, gr11, _⟩ := run_append_zeros (P := Try.prog) w10 24 3 24 5 .i64 Try.underlying24 Try.underlying3 u8_inf4 w1.heap.size A10 c10 P hoP 480 (by omega) HB10.out.size
  have hb11 : Below w1.heap.size w10 w11 := (Below.refl _ _).grown gr11 HB10.out.size (own_ge hoP)
  rw [hPl] at hr11 own11
  have HR11 : Hid ((Builtin.append_ #[24, 3] 24 #[.slice A10 (8 + 8 + 8 + 4 + 4) c10, .int .i64 480]).run Try.prog w10 = .ok (.slice A11 512 c11) w11) := hr11
  have HB11 := Lib.hid (HB1.out.trans ((HB10.out.trans hb11).mono HB1.out.size))
  have HO11 : Hid (w11.ownsRow w.heap.size 5 1 (.slice A11 512 c11) 512 ((slPut g n s).map bv)) := (show World.ownsRow _ _ _ _ _ _ _ by
    have e : slPut g n s = P ++ List.replicate 480 0 := by rw [← hP]; rfl
    rw [e]
    exact own_lift own11 (Nat.le_of_lt hlt))
  clear hoP hr11 own11 gr11 hb11 hP hPl
  go_wp2_with (first
    | (at_builtin; refine Lib.wpList_append_run _ rfl (.tmp 38) (.const (.int .i64 480)) 24 3 rfl _ _ rfl rfl _ _ HR11.out ?_)
    | fail)
  go_ret
  obtain ⟨A12, c12, e12, hA12⟩ := own_slc HO11.out
  injection e12 with e1 _ e3
  exact ⟨A11, c11, rfl, by rw [e1, e3]; exact hA12, HO11.out, HB11.out⟩
end Go.Proofs.Yteomiekjcnpnlaa
