/- Texts of mine, joined: Hea3, Hea4, Hea5, Hea6, Hea7, Chk1, Chk2, Chk3, Chk4, Chk5, Hea8, Hea9. -/
import Derived.Lib.Mul64
import Derived.Laws.Bits64b
import Derived.Maps.OwnSet
import Derived.DeepKeys4
import Derived.Test.YtbldlidpapdkbaaGreatDoorM8

/- The program's heap (layer 14): take, Malloc, Calloc, Free. -/
namespace Go.Proofs.YtbldlidpapdkbaaGreatDoor
open Go.RowKit

/-- No error, or one of api's, by its number. -/
def errN (k : Int) : Value := if k = 0 then .nilIface else .iface 68 (.int .i64 k)
theorem errN_0 : errN 0 = .nilIface := rfl
theorem errN_1 : errN 1 = .iface 68 (.int .i64 1) := rfl
/-- The heap is another one. -/
def PTurn (g base cap : Nat) (A : Option Addr) (H' : Hp) (w w' : World) : Prop := ∃ out, Became 80 g base cap A out w w' ∧ RtD out H'
/-- A handle, an error's number, the heap then. -/
def PGets (g base cap : Nat) (A : Option Addr) (r : (Nat × Int) × Hp) (w : World) (e : Ending) (w' : World) : Prop :=
  e = .returned (.tuple #[.int .u64 (r.1.1 : Int), errN r.1.2]) ∧ PTurn g base cap A r.2 w w'
/-- What giving a handle's block back comes to. -/
def Hp.freeP (H : Hp) (p : Nat) : Int × Hp := match H.handleB p with
  | none => (4, H)
  | some i => (0, H.give i)
section
variable {w w' : World} {q g base cap c : Nat} {A : Option Addr} {bs out : List UInt8} {H H' : Hp}
theorem PH.stay (h : PH w q g base cap A c bs H) (hb : Below w.heap.size w w') : PTurn g base cap A H w w' := ⟨bs, became_of h.ar hb, h.rd⟩
theorem PTurn.ph (h : PH w q g base cap A c bs H) (ht : PTurn g base cap A H' w w') (hc : H'.cap = cap) : ∃ A' c' out, PH w' q g base cap A' c' out H' ∧ Tch (foot g A) w w' ∧ (A' = A ∨ ∀ a, A' = some a → w.heap.size ≤ a.block) := by
  obtain ⟨out, hb, hr⟩ := ht
  obtain ⟨A', c', h1, h2, h3⟩ := h.became hb hr hc
  exact ⟨A', c', out, h1, h2, h3⟩
theorem PTurn.more {w1 w2 : World} (h : PTurn g base cap A H' w w1) (hb : Below w1.heap.size w1 w2) : PTurn g base cap A H' w w2 := by
  obtain ⟨out, hb1, hr⟩ := h
  exact ⟨out, became_below hb1 hb, hr⟩
theorem rt_get {H : Hp} (h : Rt bs H) (hc : H.cap ≤ 16384) {y : Bk} (hy : y ∈ H.blks) : getB bs (y.off : Int) = some y := (h.md hc).ls.st.at_ _ hy
/-- The size that is needed. -/
theorem get_none {n : Nat} {x : UInt8} (hs : needN n = none) : H.get n x = ((0, 5), H) := by unfold Hp.get; rw [hs]
theorem get_full {n s : Nat} {x : UInt8} (hs : needN n = some s) (ht : (H.take s).1 = none) : H.get n x = ((0, 5), H) := by unfold Hp.get; rw [hs]; dsimp only; rw [ht]
theorem get_some {n s o i : Nat} {x : UInt8} (hs : needN n = some s) (ht : (H.take s).1 = some o) (hi : atB (o : Int) (H.take s).2.blks = some i) : H.get n x = ((o + 8, 0), ((H.take s).2.wipe i).fill i x) := by unfold Hp.get; rw [hs]; dsimp only; rw [ht]; dsimp only; rw [hi]

set_option maxRecDepth 100000 in
set_option maxHeartbeats 2000000 in
theorem htake_any (h : PH w q g base cap A c bs H) (n : Nat) (hn : n < 18446744073709551616) (v : UInt8) :
    Calls Tryz.prog 52 #[.pointer (some ⟨q, 0, none⟩), .int .u64 (n : Int), .int .u8 (v.toNat : Int)] w fun e w' => PGets g base cap A (H.get n v) w e w' := by
  have hN := needC w n hn
  cases hs : needN n with
  | none =>
    rw [hs] at hN
    dsimp only [needV] at hN
    have HN := Lib.hid hN
    have HG := Lib.hid (get_none (H := H) (x := v) hs)
    have H0 := Lib.hid h
    clear h hN hs
    go_enter Tryz.func52, Tryz.ntmps52
    go_wp2_with fail
    refine HN.out.mono ?_
    rintro e w2 ⟨rfl, hb⟩
    have HT := Lib.hid (H0.out.stay hb)
    clear hb HN H0
    go_wp2
    go_ret2
    rw [HG.out]
    exact ⟨rfl, HT.out⟩
  | some s =>
    have hsz := need_sz hs
    have hss := (isSz_iff _).1 hsz
    rw [hs] at hN
    dsimp only [needV] at hN
    have HN := Lib.hid hN
    have hK : ∀ w1, Below w.heap.size w w1 → Calls Tryz.prog 85 #[.pointer (some ⟨g, 0, none⟩), .int .i64 (s : Int)] w1 fun e w' => TurnedAt g base cap A bs H (H.take s) w1 e w' := fun w1 hb => by
      have := (takeK w1 g base cap c A bs H (s : Int) (h.ar.below hb) h.b62 h.c16 h.cp h.rd.rt ⟨by omega, by omega⟩).2 hsz
      rw [Int.toNat_natCast] at this
      exact this
    cases ht : (H.take s).1 with
    | none =>
      unfold TurnedAt at hK
      rw [ht] at hK
      dsimp only [errV] at hK
      have HK := Lib.hid hK
      have HG := Lib.hid (get_full (H := H) (x := v) hs ht)
      have H0 := Lib.hid h
      have k0 : ∀ w1, Below w.heap.size w w1 → w1.cell? ⟨q, 0, none⟩ = some (.pointer (some ⟨g, 0, none⟩)) := fun w1 hb => (h.below hb).c0
      have K0 := Lib.hid k0
      have hlq := h.lt
      clear h hN hs hK ht k0 hsz
      go_enter Tryz.func52, Tryz.ntmps52
      go_wp2_with fail
      refine HN.out.mono ?_
      rintro e w2 ⟨rfl, hb⟩
      have k2 := K0.out w2 hb
      have hlq2 := Nat.lt_of_lt_of_le hlq hb.size
      have HK2 := Lib.hid (HK.out w2 hb)
      have HB2 := Lib.hid hb
      clear hb HN HK K0
      go_wp2_with fail
      refine HK2.out.mono ?_
      rintro e w3 ⟨rfl, hb3⟩
      have HT := Lib.hid (H0.out.stay (HB2.out.trans (hb3.mono HB2.out.size)))
      clear hb3 H0 HB2 HK2 k2
      go_wp2
      go_ret2
      rw [HG.out]
      exact ⟨rfl, HT.out⟩
    | some o =>
      unfold TurnedAt at hK
      rw [ht] at hK
      dsimp only [errV] at hK
      have hcap2 : (H.take s).2.cap = cap := take_cap.trans h.cp
      have hGOT := fun out h1 hh => h.rd.got (s := s) (out := out) hsz ht h1 hh v
      have HGS := Lib.hid (fun i hi => get_some (H := H) (x := v) (i := i) hs ht hi)
      obtain ⟨H1, hH1⟩ : ∃ H1, (H.take s).2 = H1 := ⟨_, rfl⟩
      rw [hH1] at hK hGOT hcap2 HGS
      have HGOT := Lib.hid hGOT
      have HK := Lib.hid hK
      have H0 := Lib.hid h
      have k0 : ∀ w1, Below w.heap.size w w1 → w1.cell? ⟨q, 0, none⟩ = some (.pointer (some ⟨g, 0, none⟩)) := fun w1 hb => (h.below hb).c0
      have K0 := Lib.hid k0
      have hlq := h.lt
      have HC2 := Lib.hid hcap2
      clear h hN hs hK ht k0 hH1 hGOT hcap2 hsz
      go_enter Tryz.func52, Tryz.ntmps52
      go_wp2_with fail
      refine HN.out.mono ?_
      rintro e w2 ⟨rfl, hb⟩
      have k2 := K0.out w2 hb
      have hlq2 := Nat.lt_of_lt_of_le hlq hb.size
      have HK2 := Lib.hid (HK.out w2 hb)
      have HB2 := Lib.hid hb
      clear hb HN HK K0
      go_wp2_with fail
      refine HK2.out.mono ?_
      rintro e w3 ⟨rfl, out, hbe, hr1, hh1⟩
      obtain ⟨i, y, hi, hy, hyo, hyu, hys, hyl, hrd⟩ := HGOT.out out hr1 hh1
      obtain ⟨A3, c3, a3, t3, m3⟩ := hbe.after HB2.out
      have ho3 := (t3.block q H0.out.lt H0.out.ap).trans H0.out.obj
      have hout : out.length ≤ 16384 := (hr1.bound (by rw [HC2.out]; exact H0.out.c16)).1
      have hgb := rt_get hr1 (by rw [HC2.out]; exact H0.out.c16) (List.mem_of_getElem? hy)
      obtain ⟨yo, ys, yu⟩ := y
      dsimp only at hyo hyu hys hyl hrd hgb
      subst hyo
      have hf := hfill_yes ho3 a3 H0.out.b62 hout yo ys 0 (yo + 8) v hgb (by omega) (by omega) (by omega) rfl
      rw [Nat.add_zero, Nat.sub_zero, show ((0 : Nat) : Int) = 0 from rfl] at hf
      have HF := Lib.hid hf
      have HRD := Lib.hid hrd
      have HGI := Lib.hid (HGS.out i hi)
      have HTR := Lib.hid (fun b4 w4 (k : Became 80 g base cap A3 b4 w3 w4) => Became.trans a3 t3 m3 k)
      clear hbe hr1 hh1 hi hy hyu hyl hrd a3 t3 m3 ho3 hgb hf HGOT HGS HK2 HB2 k2 hlq2
      go_wp2_with fail
      refine HF.out.mono ?_
      rintro e w4 ⟨rfl, hb4⟩
      have HT := Lib.hid (HTR.out _ _ hb4)
      clear hb4 HF HTR
      go_wp2
      go_ret2
      rw [HGI.out]
      exact ⟨rfl, _, HT.out, HRD.out⟩

set_option maxRecDepth 100000 in
set_option maxHeartbeats 400000 in
theorem hmalloc_any (h : PH w q g base cap A c bs H) (n : Nat) (hn : n < 18446744073709551616) :
    Calls Tryz.prog 23 #[.pointer (some ⟨q, 0, none⟩), .int .u64 (n : Int)] w fun e w' => PGets g base cap A (H.get n 165) w e w' := by
  have HK : Hid (Calls Tryz.prog 52 #[.pointer (some ⟨q, 0, none⟩), .int .u64 (n : Int), .int .u8 165] w fun e w' => PGets g base cap A (H.get n 165) w e w') := htake_any h n hn 165
  clear h
  go_enter Tryz.func23, Tryz.ntmps23
  go_wp2_with fail
  refine HK.out.mono ?_
  rintro e w2 ⟨rfl, ht⟩
  have HT := Lib.hid ht
  clear ht HK
  go_wp2
  go_ret2
  exact ⟨rfl, HT.out⟩
set_option maxRecDepth 100000 in
set_option maxHeartbeats 400000 in
theorem hfree_any (h : PH w q g base cap A c bs H) (p : Nat) (hp : p < 18446744073709551616) :
    Calls Tryz.prog 25 #[.pointer (some ⟨q, 0, none⟩), .int .u64 (p : Int)] w fun e w' => e = .returned (errN (H.freeP p).1) ∧ PTurn g base cap A (H.freeP p).2 w w' := by
  unfold Hp.freeP
  have hF := pfind_any h p hp
  cases hh : H.handleB p with
  | none =>
    rw [hh] at hF
    dsimp only [bkV, errV, Option.map, Option.isSome] at hF
    have HF := Lib.hid hF
    have H0 := Lib.hid h
    clear h hF hh
    go_enter Tryz.func25, Tryz.ntmps25
    go_wp2_with fail
    refine HF.out.mono ?_
    rintro e w2 ⟨rfl, hb⟩
    have HT := Lib.hid (H0.out.stay (hb.alloc hb.size (.cells #[.int .i64 0, .int .i64 0, .bool false] 82)))
    clear hb HF H0
    go_wp2
    go_ret
    exact ⟨rfl, HT.out⟩
  | some i =>
    obtain ⟨xo, xs, hbk, hpx, h184, h32, hle, hi, hat, hd, h16, hu⟩ := h.blk hh
    rw [hh] at hF
    dsimp only [Option.map] at hF
    rw [hbk] at hF
    dsimp only [bkV, Bk.val, errV, Option.isSome] at hF
    have hg : H.giveO (xo : Int) = some (H.give i) := by unfold Hp.giveO; rw [hu]; rfl
    have hl := h.len
    have hK : ∀ w1, Below w.heap.size w w1 → Calls Tryz.prog 55 #[.pointer (some ⟨g, 0, none⟩), .int .i64 (xo : Int)] w1 fun e w' => Turned 3 g base cap A bs H (some (H.give i)) w1 e w' := fun w1 hb => by
      have := giveK w1 g base cap c A bs H (xo : Int) (h.ar.below hb) h.b62 h.c16 h.cp h.rd.rt ⟨by omega, by omega⟩
      rw [hg] at this
      exact this
    dsimp only [Turned, errV] at hK
    have HFR := Lib.hid (fun out h' hh => h.rd.freed (i := i) (out := out) hi h' hh)
    have HK := Lib.hid hK
    have HF := Lib.hid hF
    have H0 := Lib.hid h
    clear h hF hh hK hbk hpx hat hd hu hi hg
    go_enter Tryz.func25, Tryz.ntmps25
    go_wp2_with fail
    refine HF.out.mono ?_
    rintro e w2 ⟨rfl, hb⟩
    obtain ⟨w3, hw3⟩ : ∃ w3, w2.alloc (.cells #[.int .i64 (xo : Int), .int .i64 (xs : Int), .bool true] 82) = w3 := ⟨_, rfl⟩
    obtain ⟨wd, hwd⟩ : ∃ wd, w3.drew = wd := ⟨_, rfl⟩
    have n3 : wd.heap[w2.heap.size]? = some (.cells #[.int .i64 (xo : Int), .int .i64 (xs : Int), .bool true] 82 (0, 0)) := by rw [← hwd, ← hw3]; exact heap_alloc_new w2 _
    have hbd : Below w.heap.size w wd := by rw [← hwd, ← hw3]; exact (hb.alloc hb.size _).drew
    have k0 := (H0.out.below hbd).c0
    have hlq := (H0.out.below hbd).lt
    obtain ⟨⟨d0, d1, d2⟩, _⟩ := blk_cells n3
    have hlt3 := heap_lt' n3
    have HK3 := Lib.hid (HK.out wd hbd)
    have HBD := Lib.hid hbd
    have HW3 := Lib.hid hw3
    have HWD := Lib.hid hwd
    clear hb HF hw3 n3 hwd hbd HK
    go_wp2_with (first | (rw [HW3.out]) | fail)
    refine wp_region_tail wd.heap.size [] [0, 1, 2, 3, 4, 5] [6, 7] (by kernel_rfl) (by kernel_rfl) (by kernel_rfl) (fun _ _ _ _ _ h => h) ?_
    rw [HWD.out]
    have q0 : ∀ z : LaterB wd.heap.size wd, z.val.cell? ⟨q, 0, none⟩ = some (.pointer (some ⟨g, 0, none⟩)) := fun z => (z.ext.cell (p := ⟨q, 0, none⟩) hlq).trans k0
    have q1 : ∀ z : LaterB wd.heap.size wd, z.val.cell? ⟨w2.heap.size, 0, none⟩ = some (.int .i64 (xo : Int)) := fun z => (z.ext.cell (p := ⟨w2.heap.size, 0, none⟩) hlt3).trans d0
    refine tail_last (l := ?la2) (t := ?tl2) ?hla2 ?htl2 ?_
    case hla2 => simp only [pick, List.getElem?_toArray, List.getElem?_cons_succ, List.getElem?_cons_zero]; rfl
    case htl2 => simp only [pick, List.getElem?_toArray, List.getElem?_cons_succ, List.getElem?_cons_zero]; rfl
    repeat (go_big_quiet_step (fail))
    refine wpQuiet_nil ?_
    clear q0 q1 k0 d0 d1 d2
    go_wp2_with fail
    refine HK3.out.mono ?_
    rintro e w4 ⟨rfl, out, hbe, hr, hh⟩
    have HT : Hid (PTurn g base cap A (H.give i) w w4) := ⟨out, hbe.after HBD.out, HFR.out out hr hh⟩
    clear hbe hr hh HK3 HFR
    go_wp2
    go_ret
    exact ⟨rfl, HT.out⟩
end
end Go.Proofs.YtbldlidpapdkbaaGreatDoor

/- The program's heap (layer 14): Mul64's product, Calloc, Usable; an error's number. -/
namespace Go.Proofs.YtbldlidpapdkbaaGreatDoor
open Go.RowKit

section
theorem m64_and (a : Nat) (ha : a < 18446744073709551616) : bits .and .u64 (a : Int) 4294967295 = ((a % 4294967296 : Nat) : Int) := by
  have h := bits_and_u64_nat a 4294967295 ha (by omega)
  rw [show a &&& 4294967295 = a % 4294967296 from Nat.and_two_pow_sub_one_eq_mod a 32] at h
  exact h
theorem m64_div (a : Nat) : (a : Int) / 4294967296 = ((a / 4294967296 : Nat) : Int) := by omega
theorem m64_mul (a b : Nat) : (a : Int) * (b : Int) = ((a * b : Nat) : Int) := (Int.natCast_mul a b).symm
theorem m64_add (a b : Nat) : (a : Int) + (b : Int) = ((a + b : Nat) : Int) := (Int.natCast_add a b).symm
theorem m64_in (a : Nat) (ha : a < 18446744073709551616) : IntKind.u64.wrap (a : Int) = (a : Int) := by rw [IntKind.wrap_u64]; omega
theorem m64_mod (a : Nat) : IntKind.u64.wrap (a : Int) = ((a % 18446744073709551616 : Nat) : Int) := by rw [IntKind.wrap_u64]; omega
set_option maxHeartbeats 1000000 in
theorem mul64_any (w : World) (x y : Nat) (hx : x < 18446744073709551616) (hy : y < 18446744073709551616) :
    Calls Tryz.prog 53 #[.int .u64 (x : Int), .int .u64 (y : Int)] w fun e w' => e = .returned (.tuple #[.int .u64 ((x * y / 18446744073709551616 : Nat) : Int), .int .u64 ((x * y % 18446744073709551616 : Nat) : Int)]) ∧ w = w' := by
  obtain ⟨bd, bt, bw, hhi⟩ := Lib.mul64_hi x y hx hy
  have ba := Lib.half_mul_le (a := x / 4294967296) (b := y / 4294967296) (by omega) (by omega)
  have bb := Lib.half_mul_le (a := x / 4294967296) (b := y % 4294967296) (by omega) (by omega)
  have bc := Lib.half_mul_le (a := x % 4294967296) (b := y / 4294967296) (by omega) (by omega)
  have ba' : x / 4294967296 * (y / 4294967296) < 18446744073709551616 := by omega
  have bb' : x / 4294967296 * (y % 4294967296) < 18446744073709551616 := by omega
  have bc' : x % 4294967296 * (y / 4294967296) < 18446744073709551616 := by omega
  have bh1 : x / 4294967296 * (y / 4294967296) + (x / 4294967296 * (y % 4294967296) + x % 4294967296 * (y % 4294967296) / 4294967296) / 4294967296 < 18446744073709551616 := by omega
  have bh : x / 4294967296 * (y / 4294967296) + (x / 4294967296 * (y % 4294967296) + x % 4294967296 * (y % 4294967296) / 4294967296) / 4294967296 + ((x / 4294967296 * (y % 4294967296) + x % 4294967296 * (y % 4294967296) / 4294967296) % 4294967296 + x % 4294967296 * (y / 4294967296)) / 4294967296 < 18446744073709551616 := by omega
  go_enter Tryz.func53, Tryz.ntmps53
  go_wp2
  simp only [m64_and x hx, m64_and y hy, m64_div, m64_mul, m64_add, m64_in _ bd, m64_in _ bb', m64_in _ bt, m64_and _ bt, m64_in _ bc', m64_in _ bw, m64_in _ ba', m64_in _ bh1, m64_in _ bh, m64_mod (x * y)]
  rw [hhi]
  go_ret2
  exact ⟨rfl, rfl⟩
end

section
variable {w w' : World} {q g base cap c : Nat} {A : Option Addr} {bs out : List UInt8} {H H' : Hp}
set_option maxRecDepth 100000 in
set_option maxHeartbeats 1000000 in
theorem hcalloc_prog (h : PH w q g base cap A c bs H) (n m : Nat) (hn : n < 18446744073709551616) (hm : m < 18446744073709551616) :
    Calls Tryz.prog 24 #[.pointer (some ⟨q, 0, none⟩), .int .u64 (n : Int), .int .u64 (m : Int)] w fun e w' => PGets g base cap A (H.calloc n m) w e w' := by
  have hM := mul64_any w n m hn hm
  obtain ⟨k, hk⟩ : ∃ k, n * m = k := ⟨_, rfl⟩
  obtain ⟨z, hz⟩ : ∃ z, k / 18446744073709551616 = z := ⟨_, rfl⟩
  obtain ⟨l, hl⟩ : ∃ l, k % 18446744073709551616 = l := ⟨_, rfl⟩
  rw [hk, hz, hl] at hM
  have HM := Lib.hid hM
  by_cases hbig : 18446744073709551615 < k
  · have e : H.calloc n m = ((0, 5), H) := by unfold Hp.calloc; rw [hk, if_pos hbig]
    have hz0 : z ≠ 0 := by omega
    have g1 : ((z : Int) != 0) = true := by rw [bne_iff_ne]; omega
    have HE := Lib.hid e
    have HT := Lib.hid (h.stay (Below.refl _ _))
    clear h hM hk hz hl e
    go_enter Tryz.func24, Tryz.ntmps24
    go_wp2_with fail
    refine HM.out.mono ?_
    rintro e w2 ⟨rfl, rfl⟩
    go_wp2
    go_ret2
    rw [HE.out]
    exact ⟨rfl, HT.out⟩
  · have e : H.calloc n m = H.get k 0 := by unfold Hp.calloc; rw [hk, if_neg hbig]
    obtain rfl : z = 0 := by omega
    obtain rfl : l = k := by omega
    have HE := Lib.hid e
    have HK : Hid (Calls Tryz.prog 52 #[.pointer (some ⟨q, 0, none⟩), .int .u64 (l : Int), .int .u8 0] w fun e w' => PGets g base cap A (H.get l 0) w e w') := htake_any h l (by omega) 0
    clear h hM hk hz hl e
    go_enter Tryz.func24, Tryz.ntmps24
    go_wp2_with fail
    refine HM.out.mono ?_
    rintro e w2 ⟨rfl, rfl⟩
    go_wp2_with fail
    refine HK.out.mono ?_
    rintro e w2 ⟨rfl, ht⟩
    have HT := Lib.hid ht
    clear ht HK HM
    go_wp2
    go_ret2
    rw [HE.out]
    exact ⟨rfl, HT.out⟩
/-- How many bytes a handle holds. -/
def Hp.usableP (H : Hp) (p : Nat) : Nat × Int := match H.handleB p with
  | none => (0, 4)
  | some i => ((H.ds.getD i nilD).2.length, 0)
set_option maxRecDepth 100000 in
set_option maxHeartbeats 1000000 in
theorem husablep_any (h : PH w q g base cap A c bs H) (p : Nat) (hp : p < 18446744073709551616) :
    Calls Tryz.prog 27 #[.pointer (some ⟨q, 0, none⟩), .int .u64 (p : Int)] w fun e w' => e = .returned (.tuple #[.int .u64 ((H.usableP p).1 : Int), errN (H.usableP p).2]) ∧ Below w.heap.size w w' := by
  unfold Hp.usableP
  have hF := pfind_any h p hp
  cases hh : H.handleB p with
  | none =>
    rw [hh] at hF
    dsimp only [bkV, errV, Option.map, Option.isSome] at hF
    have HF := Lib.hid hF
    clear h hF hh
    go_enter Tryz.func27, Tryz.ntmps27
    go_wp2_with fail
    refine HF.out.mono ?_
    rintro e w2 ⟨rfl, hb⟩
    have HT := Lib.hid (hb.alloc hb.size (.cells #[.int .i64 0, .int .i64 0, .bool false] 82))
    clear hb HF
    go_wp2
    go_ret2
    exact ⟨rfl, HT.out⟩
  | some i =>
    obtain ⟨xo, xs, hbk, hpx, h184, h32, hle, hi, hat, hd, h16, hu⟩ := h.blk hh
    rw [hh] at hF
    dsimp only [Option.map] at hF
    rw [hbk] at hF
    dsimp only [bkV, Bk.val, errV, Option.isSome] at hF ⊢
    have HUS := Lib.hid (fun W => husable_any W (xo : Int) xs true (by omega) h16)
    obtain ⟨L, hL⟩ : ∃ L, (H.ds.getD i nilD).2.length = L := ⟨_, rfl⟩
    rw [hL] at hd ⊢
    have eL : xs - 16 = L := by omega
    rw [eL] at HUS
    have hL14 : L ≤ 16384 := by omega
    have HF := Lib.hid hF
    clear h hF hh hbk hpx hat hd hu hi hL eL
    go_enter Tryz.func27, Tryz.ntmps27
    go_wp2_with fail
    refine HF.out.mono ?_
    rintro e w2 ⟨rfl, hb⟩
    obtain ⟨w3, hw3⟩ : ∃ w3, w2.alloc (.cells #[.int .i64 (xo : Int), .int .i64 (xs : Int), .bool true] 82) = w3 := ⟨_, rfl⟩
    have n3 : w3.heap[w2.heap.size]? = some (.cells #[.int .i64 (xo : Int), .int .i64 (xs : Int), .bool true] 82 (0, 0)) := by rw [← hw3]; exact heap_alloc_new w2 _
    have HB3 : Hid (Below w.heap.size w w3) := (show Below _ _ _ by rw [← hw3]; exact hb.alloc hb.size _)
    obtain ⟨⟨d0, d1, d2⟩, _⟩ := blk_cells n3
    have hlt3 := heap_lt' n3
    have HW3 := Lib.hid hw3
    clear hb HF hw3 n3
    go_wp2_with (first | (rw [HW3.out]) | fail)
    refine (HUS.out w3).mono ?_
    rintro e w4 ⟨rfl, hb4⟩
    have HB4 := Lib.hid (HB3.out.trans (hb4.mono HB3.out.size))
    clear hb4 d0 d1 d2 HB3
    go_wp2
    go_ret2
    exact ⟨rfl, HB4.out⟩
end

section
variable {w : World}
set_option maxHeartbeats 1000000 in
theorem hnumber_nil (w : World) : Calls Tryz.prog 34 #[.nilIface] w fun e w' => e = .returned (.int .i64 0) ∧ Below w.heap.size w w' := by
  have HA := Lib.hid (fun t W => as_nil t W)
  go_enter Tryz.func34, Tryz.ntmps34
  go_wp2_with fail
  refine (HA.out _ _).mono ?_
  rintro e w2 ⟨rfl, rfl⟩
  go_wp2
  go_ret
  exact ⟨rfl, (Below.refl _ _).alloc (Nat.le_refl _) _⟩
theorem ET.lt (h : ET w) : 0 < w.heap.size := by
  unfold ET at h
  rcases Nat.eq_zero_or_pos w.heap.size with h0 | h1
  · simp [World.cell?, h0] at h
  · exact h1
theorem ET.keep {w' : World} (h : ET w) (hb : w'.heap[0]? = w.heap[0]?) : ET w' := (World.cell?_of_block (a := ⟨0, 0, none⟩) hb).trans h
theorem ET.below {w' : World} (h : ET w) (hb : Below w.heap.size w w') : ET w' := h.keep (hb.block 0 h.lt)
set_option maxHeartbeats 1000000 in
theorem hnumber_err (h : ET w) (k : Int) : Calls Tryz.prog 34 #[.iface 68 (.int .i64 k)] w fun e w' => e = .returned (.int .i64 k) ∧ Below w.heap.size w w' := by
  obtain ⟨w1, hw1⟩ : ∃ w1, w.alloc (.cells #[.int .i64 0] 68) = w1 := ⟨_, rfl⟩
  have hb1 : Below w.heap.size w w1 := by rw [← hw1]; exact (Below.refl _ _).alloc (Nat.le_refl _) _
  have n1 : w1.heap[w.heap.size]? = some (.cells #[.int .i64 0] 68 (0, 0)) := by rw [← hw1]; exact heap_alloc_new w _
  have c1 : w1.cell? ⟨w.heap.size, 0, none⟩ = some (.int .i64 0) := by rw [cell_of_row w1 w.heap.size 0 _ _ (0, 0) n1]; rfl
  have f1 := frozen_of_row w1 w.heap.size 0 _ _ n1
  have HA := Lib.hid (as_hit k ⟨w.heap.size, 0, none⟩ (.int .i64 0) w1 (h.below hb1) c1 f1)
  have HN1 := Lib.hid n1
  have HW1 := Lib.hid hw1
  have HB1 := Lib.hid hb1
  clear h hb1 n1 c1 f1 hw1
  go_enter Tryz.func34, Tryz.ntmps34
  go_wp2_with (first | (rw [HW1.out]) | fail)
  refine HA.out.mono ?_
  rintro e w2 ⟨rfl, hw2⟩
  have hs1 := HB1.out.size
  have hlt1 := heap_lt HN1.out
  obtain ⟨wa, hwa⟩ : ∃ wa, ((((w1.alloc (.cells #[.pointer (some ⟨w.heap.size, 0, none⟩)] 107)).alloc (.cells #[.pointer (some ⟨1, 107, none⟩), .pointer (some ⟨w1.heap.size, 0, none⟩), .int .u64 150] 135)).alloc (.cells #[.pointer (some ⟨1, 107, none⟩), .pointer (some ⟨w1.heap.size, 0, none⟩), .int .u64 150] 135)).alloc (.cells #[.int .i64 k] 68)) = wa := ⟨_, rfl⟩
  have hba : Below w1.heap.size w1 wa := by
    rw [← hwa]
    have b1 := (Below.refl w1.heap.size w1).alloc (Nat.le_refl _) (.cells #[.pointer (some ⟨w.heap.size, 0, none⟩)] 107)
    have b2 := b1.alloc b1.size (.cells #[.pointer (some ⟨1, 107, none⟩), .pointer (some ⟨w1.heap.size, 0, none⟩), .int .u64 150] 135)
    have b3 := b2.alloc b2.size (.cells #[.pointer (some ⟨1, 107, none⟩), .pointer (some ⟨w1.heap.size, 0, none⟩), .int .u64 150] 135)
    exact b3.alloc b3.size _
  rw [hwa] at hw2
  have na := (hba.block _ hlt1).trans HN1.out
  have n2 : w2.heap[w.heap.size]? = some (.cells #[.int .i64 k] 68 (0, 0)) := by rw [hw2, heap_setCell_same wa w.heap.size 0 _ _ (.int .i64 k) na]; rfl
  have c2 : w2.cell? ⟨w.heap.size, 0, none⟩ = some (.int .i64 k) := by rw [cell_of_row w2 w.heap.size 0 _ _ (0, 0) n2]; rfl
  have HB2 : Hid (Below w.heap.size w w2) := (show Below _ _ _ by rw [hw2]; exact (HB1.out.trans (hba.mono hs1)).setCell (Nat.le_refl _) _)
  have hlt2 := heap_lt n2
  clear hw2 hwa hba na n2 hs1 hlt1 HA HN1 HW1 HB1
  go_wp2
  go_ret
  exact ⟨rfl, HB2.out⟩
theorem hnumber_any (h : ET w) (k : Int) : Calls Tryz.prog 34 #[errN k] w fun e w' => e = .returned (.int .i64 k) ∧ Below w.heap.size w w' := by
  unfold errN
  split
  · rename_i h0
    subst h0
    exact hnumber_nil w
  · exact hnumber_err h k
end
end Go.Proofs.YtbldlidpapdkbaaGreatDoor

/- The program's heap (layer 14): Realloc, Read, Write. -/
namespace Go.Proofs.YtbldlidpapdkbaaGreatDoor
open Go.RowKit

section
variable {w w' : World} {q g base cap c : Nat} {A : Option Addr} {bs out : List UInt8} {H H' : Hp}
theorem Hp.Ok.one_ (h : H.Ok) : H.One := fun a b x y ha hb e => by
  have hpw := List.pairwise_iff_getElem.1 (tile_ne _ _ _ h.tl)
  have e1 : H.blks[a]'(lst_lt ha) = x := by have := List.getElem?_eq_getElem (lst_lt ha); rw [ha] at this; exact (Option.some.inj this).symm
  have e2 : H.blks[b]'(lst_lt hb) = y := by have := List.getElem?_eq_getElem (lst_lt hb); rw [hb] at this; exact (Option.some.inj this).symm
  rcases Nat.lt_trichotomy a b with h' | h' | h'
  · exact absurd (by rw [e1, e2]; exact e) (hpw a b (lst_lt ha) (lst_lt hb) h')
  · exact h'
  · exact absurd (by rw [e1, e2]; exact e.symm) (hpw b a (lst_lt hb) (lst_lt ha) h')
/-- What fill lays behind a block's bytes that stay. -/
def fillN (out : List UInt8) (o s f : Nat) (v : UInt8) : List UInt8 := if f < s - 16 then lay out (o + 8 + f) (List.replicate (s - 16 - f) v) else out
/-- A block has another size, and is filled. -/
theorem RtD.rezFill (h : RtD bs H) (hc : H.cap ≤ 16384) {s xo xs i0 : Nat} (hs : isSz (s : Int) = true) (hat : H.At i0 ⟨xo, xs, true⟩ (H.ds.getD i0 nilD)) (he : (H.resize (xo : Int) s).1.2 = 0) (h1 : Rt out (H.resize (xo : Int) s).2) (hh : Held H bs (H.resize (xo : Int) s).2 out) (hm : Moved H bs (xo : Int) (H.resize (xo : Int) s).2 out (H.resize (xo : Int) s).1.1) (v : UInt8) :
    ∃ i y, atB ((H.resize (xo : Int) s).1.1 : Int) (H.resize (xo : Int) s).2.blks = some i ∧ (H.resize (xo : Int) s).2.blks[i]? = some y ∧ y.off = (H.resize (xo : Int) s).1.1 ∧ s ≤ y.size ∧ y.off + y.size ≤ out.length ∧ RtD (fillN out y.off y.size (xs - 16) v) ((H.resize (xo : Int) s).2.fill i v) := by
  have hok := h.rt.ok hc h.dl
  obtain ⟨i, y, j, x0, d, e1, e2, e3, e4, e5, e6, e7, e8, e9, e10, e11, e12⟩ := h.resized hok (hok.take hc hs).one_ hs he h1 hh hm v
  obtain rfl : j = i0 := h.rt.one _ _ _ _ e7.1 hat.1 (by dsimp only; omega)
  obtain rfl : x0 = ⟨xo, xs, true⟩ := Option.some.inj (e7.1.symm.trans hat.1)
  dsimp only at e10
  have ss := (isSz_iff _).1 hs
  refine ⟨i, y, e1, e2, e3, e5, e6, ?_⟩
  unfold fillN
  split
  · rename_i hf
    have hll : (List.replicate (y.size - 16 - (xs - 16)) v).length = y.size - 16 - (xs - 16) := List.length_replicate
    refine e12 _ (agree_lay (x := y) _ _ (by omega) (by omega) (by omega)) (fun k hk => ?_)
    rw [fullL_at _ _ _ _ hk]
    by_cases hkd : k < d.2.length
    · rw [lay_out out _ _ (by omega) _ (by omega), e11 k hkd (by omega), List.getElem?_eq_getElem hkd, List.getD_eq_getElem?_getD, List.getElem?_eq_getElem hkd]
      rfl
    · have e := lay_in out (y.off + 8 + (xs - 16)) (List.replicate (y.size - 16 - (xs - 16)) v) (by omega) (k - (xs - 16)) (by omega)
      rw [show y.off + 8 + (xs - 16) + (k - (xs - 16)) = y.off + 8 + k by omega] at e
      rw [e, List.getElem?_replicate, if_pos (by omega), List.getD_eq_getElem?_getD, List.getElem?_eq_none (by omega)]
      rfl
  · rename_i hf
    refine e12 _ (agree_self _ _) (fun k hk => ?_)
    rw [fullL_at _ _ _ _ hk, e11 k (by omega) (by omega), List.getD_eq_getElem?_getD, List.getElem?_eq_getElem (show k < d.2.length by omega)]
    rfl
theorem realloc_none {p n : Nat} (hh : H.handleB p = none) : H.realloc p n = ((0, 4), H) := by unfold Hp.realloc; rw [hh]
theorem realloc_need {p n i : Nat} (hh : H.handleB p = some i) (hs : needN n = none) : H.realloc p n = ((0, 5), H) := by unfold Hp.realloc; rw [hh]; dsimp only; rw [hs]
theorem realloc_bad {p n i s : Nat} (hh : H.handleB p = some i) (hs : needN n = some s) (he : (H.resize ((p : Int) - 8) s).1.2 ≠ 0) : H.realloc p n = ((0, (H.resize ((p : Int) - 8) s).1.2), H) := by
  unfold Hp.realloc; rw [hh]; dsimp only; rw [hs]; dsimp only; rw [if_neg he, (resize_zero H _ s he).2.1]
theorem realloc_ok {p n i j s : Nat} (hh : H.handleB p = some i) (hs : needN n = some s) (he : (H.resize ((p : Int) - 8) s).1.2 = 0) (hj : atB ((H.resize ((p : Int) - 8) s).1.1 : Int) (H.resize ((p : Int) - 8) s).2.blks = some j) : H.realloc p n = (((H.resize ((p : Int) - 8) s).1.1 + 8, 0), (H.resize ((p : Int) - 8) s).2.fill j 165) := by
  unfold Hp.realloc; rw [hh]; dsimp only; rw [hs]; dsimp only; rw [if_pos he, hj]
/-- fill, whatever there is to fill. -/
theorem hfill_any (ho : w.heap[q]? = some (.cells #[.pointer (some ⟨g, 0, none⟩)] 72 (0, 0))) (ha : Ar w 80 g base cap A c bs) (hbase : base ≤ 4611686018427387904) (hl : bs.length ≤ 16384) (o s f p : Nat) (v : UInt8) {u : Bool} (hg : getB bs (o : Int) = some ⟨o, s, u⟩) (hs : 16 ≤ s) (hos : o + s ≤ bs.length) (hp : o + 8 = p) :
    Calls Tryz.prog 58 #[.pointer (some ⟨q, 0, none⟩), .int .i64 (o : Int), .int .u64 (f : Int), .int .u8 (v.toNat : Int)] w fun e w' => e = .returned (.int .u64 (p : Int)) ∧ Became 80 g base cap A (fillN bs o s f v) w w' := by
  unfold fillN
  by_cases hf : f < s - 16
  · rw [if_pos hf, hp]
    exact hfill_yes ho ha hbase hl o s f p v hg hs hos hf hp
  · rw [if_neg hf]
    refine (hfill_no ho ha hbase hl o s f p v hg hs hos (by omega) hp).mono ?_
    rintro e w2 ⟨rfl, hb⟩
    exact ⟨rfl, became_of ha hb⟩

set_option maxRecDepth 100000 in
set_option maxHeartbeats 2000000 in
theorem hrealloc_prog (h : PH w q g base cap A c bs H) (p n : Nat) (hp : p < 18446744073709551616) (hn : n < 18446744073709551616) :
    Calls Tryz.prog 26 #[.pointer (some ⟨q, 0, none⟩), .int .u64 (p : Int), .int .u64 (n : Int)] w fun e w' => PGets g base cap A (H.realloc p n) w e w' := by
  have hF := pfind_any h p hp
  have HND := Lib.hid (fun W => needC W n hn)
  cases hh : H.handleB p with
  | none =>
    rw [hh] at hF
    dsimp only [bkV, errV, Option.map, Option.isSome] at hF
    have HF := Lib.hid hF
    have HE := Lib.hid (realloc_none (n := n) hh)
    have H0 := Lib.hid h
    clear h hF hh HND
    go_enter Tryz.func26, Tryz.ntmps26
    go_wp2_with fail
    refine HF.out.mono ?_
    rintro e w2 ⟨rfl, hb⟩
    have HT := Lib.hid (H0.out.stay (hb.alloc hb.size (.cells #[.int .i64 0, .int .i64 0, .bool false] 82)))
    clear hb HF H0
    go_wp2
    go_ret2
    rw [HE.out]
    exact ⟨rfl, HT.out⟩
  | some i =>
    obtain ⟨xo, xs, hbk, hpx, h184, h32, hle, hi, hat, hd, h16, hu⟩ := h.blk hh
    have hl := h.len
    rw [hh] at hF
    dsimp only [Option.map] at hF
    rw [hbk] at hF
    dsimp only [bkV, Bk.val, errV, Option.isSome] at hF
    have HF := Lib.hid hF
    cases hs : needN n with
    | none =>
      have HE := Lib.hid (realloc_need hh hs)
      rw [hs] at HND
      dsimp only [needV] at HND
      have H0 := Lib.hid h
      clear h hF hh hbk hpx hat hd hu hi hs
      go_enter Tryz.func26, Tryz.ntmps26
      go_wp2_with fail
      refine HF.out.mono ?_
      rintro e w2 ⟨rfl, hb⟩
      obtain ⟨w3, hw3⟩ : ∃ w3, w2.alloc (.cells #[.int .i64 (xo : Int), .int .i64 (xs : Int), .bool true] 82) = w3 := ⟨_, rfl⟩
      have HB3 : Hid (Below w.heap.size w w3) := (show Below _ _ _ by rw [← hw3]; exact hb.alloc hb.size _)
      have HW3 := Lib.hid hw3
      clear hb HF hw3
      go_wp2_with (first | (rw [HW3.out]) | fail)
      refine (HND.out w3).mono ?_
      rintro e w4 ⟨rfl, hb4⟩
      have HT := Lib.hid (H0.out.stay (HB3.out.trans (hb4.mono HB3.out.size)))
      clear hb4 HB3 H0 HND
      go_wp2
      go_ret2
      rw [HE.out]
      exact ⟨rfl, HT.out⟩
    | some s =>
      have hsz := need_sz hs
      have hss := (isSz_iff _).1 hsz
      rw [hs] at HND
      dsimp only [needV] at HND
      have hp8 : (p : Int) - 8 = (xo : Int) := by omega
      have hK : ∀ w1, Below w.heap.size w w1 → Calls Tryz.prog 57 #[.pointer (some ⟨g, 0, none⟩), .int .i64 (xo : Int), .int .i64 (s : Int)] w1 fun e w' => RezTold g base cap A bs H (xo : Int) (H.resize (xo : Int) s) w1 e w' := fun w1 hb => by
        have := (resizeK w1 g base cap c A bs H (xo : Int) (s : Int) (h.ar.below hb) h.b62 h.c16 h.cp h.rd.rt ⟨by omega, by omega⟩ ⟨by omega, by omega⟩).2 hsz
        rw [Int.toNat_natCast] at this
        exact this
      by_cases herr : (H.resize (xo : Int) s).1.2 = 0
      · have hRF := fun out h1 hh2 hm => h.rd.rezFill (out := out) (by rw [h.cp]; exact h.c16) hsz hat herr h1 hh2 hm 165
        have hRO := fun j hj => realloc_ok (j := j) hh hs (by rw [hp8]; exact herr) (by rw [hp8]; exact hj)
        rw [hp8] at hRO
        have hcap2 : (H.resize (xo : Int) s).2.cap = cap := resize_cap.trans h.cp
        have hK2 : ∀ w1, Below w.heap.size w w1 → Calls Tryz.prog 57 #[.pointer (some ⟨g, 0, none⟩), .int .i64 (xo : Int), .int .i64 (s : Int)] w1 fun e w' => e = .returned (.tuple #[.int .i64 ((H.resize (xo : Int) s).1.1 : Int), .nilIface]) ∧ ∃ out, Became 80 g base cap A out w1 w' ∧ Rt out (H.resize (xo : Int) s).2 ∧ Held H bs (H.resize (xo : Int) s).2 out ∧ Moved H bs (xo : Int) (H.resize (xo : Int) s).2 out (H.resize (xo : Int) s).1.1 := fun w1 hb => (hK w1 hb).mono fun e w2 hr => hr.1 herr
        obtain ⟨r, hr⟩ : ∃ r, H.resize (xo : Int) s = r := ⟨_, rfl⟩
        rw [hr] at hRF hRO hK2 hcap2
        obtain ⟨⟨ro, re⟩, H2⟩ := r
        dsimp only at hRF hRO hK2 hcap2
        have HRF := Lib.hid hRF
        have HRO := Lib.hid hRO
        have HC2 := Lib.hid hcap2
        have HK := Lib.hid hK2
        have H0 := Lib.hid h
        have HUS := Lib.hid (fun W => husable_any W (xo : Int) xs true (by omega) h16)
        obtain ⟨f, hf⟩ : ∃ f, xs - 16 = f := ⟨_, rfl⟩
        rw [hf] at HUS HRF
        have hf14 : f ≤ 16384 := by omega
        clear h hF hh hbk hpx hat hd hu hi hs hRF hRO hcap2 hK hK2 herr hr hp8 hsz hf
        go_enter Tryz.func26, Tryz.ntmps26
        go_wp2_with fail
        refine HF.out.mono ?_
        rintro e w2 ⟨rfl, hb⟩
        obtain ⟨w3, hw3⟩ : ∃ w3, w2.alloc (.cells #[.int .i64 (xo : Int), .int .i64 (xs : Int), .bool true] 82) = w3 := ⟨_, rfl⟩
        have n3 : w3.heap[w2.heap.size]? = some (.cells #[.int .i64 (xo : Int), .int .i64 (xs : Int), .bool true] 82 (0, 0)) := by rw [← hw3]; exact heap_alloc_new w2 _
        have HB3 : Hid (Below w.heap.size w w3) := (show Below _ _ _ by rw [← hw3]; exact hb.alloc hb.size _)
        have HW3 := Lib.hid hw3
        have HN3 := Lib.hid n3
        clear hb HF hw3 n3
        go_wp2_with (first | (rw [HW3.out]) | fail)
        refine (HND.out w3).mono ?_
        rintro e w4 ⟨rfl, hb4⟩
        have hb4' := HB3.out.trans (hb4.mono HB3.out.size)
        obtain ⟨wd, hwd⟩ : ∃ wd, w4.drew = wd := ⟨_, rfl⟩
        have hbd : Below w.heap.size w wd := by rw [← hwd]; exact hb4'.drew
        have n4 : wd.heap[w2.heap.size]? = some (.cells #[.int .i64 (xo : Int), .int .i64 (xs : Int), .bool true] 82 (0, 0)) := by rw [← hwd]; exact Loc.below hb4 _ _ HN3.out
        have hp4 := H0.out.below hbd
        have k0 := hp4.c0
        have hlq := hp4.lt
        have hnq := hp4.ap
        have hnb := ar_ne hp4.ar n4
        obtain ⟨⟨d0, d1, d2⟩, _⟩ := blk_cells n4
        have hlt4 := heap_lt' n4
        have HK4 := Lib.hid (HK.out wd hbd)
        have HBD := Lib.hid hbd
        have HWD := Lib.hid hwd
        have HN4 := Lib.hid n4
        have HP4 := Lib.hid hp4
        have HNB := Lib.hid hnb
        have HNQ := Lib.hid hnq
        clear hb4 hb4' hwd hbd hp4 HK HND HN3 HW3 HB3 n4 hnb hnq
        go_wp2_with fail
        refine wp_region_set (foot g A) [([0, 1, 2, 3, 4, 5, 6], 7)] [8, 9, 10, 11, 12] [] (by kernel_rfl) (by kernel_rfl) (by kernel_rfl) (fun _ _ _ _ _ h => h) ?_
        rw [HWD.out]
        have q0 : ∀ z : LaterS (foot g A) wd, z.val.cell? ⟨q, 0, none⟩ = some (.pointer (some ⟨g, 0, none⟩)) := fun z => z.ext.cell k0 HNQ.out
        have q1 : ∀ z : LaterS (foot g A) wd, z.val.cell? ⟨w2.heap.size, 0, none⟩ = some (.int .i64 (xo : Int)) := fun z => z.ext.cell d0 HNB.out
        refine set_cons (l := ?seg1) ?hseg1 ?_
        case hseg1 => simp only [pick, List.getElem?_toArray, List.getElem?_cons_succ, List.getElem?_cons_zero]; rfl
        repeat (go_big_quiet_step (fail))
        refine wpQuiet_nil ?_
        clear q0 q1 k0 d0 d1 d2
        refine set_call (vs := #[.pointer (some ⟨g, 0, none⟩), .int .i64 (xo : Int), .int .i64 (s : Int)]) Tryz.call57 rfl rfl rfl (R := fun r w' => r = .tuple #[.int .i64 (ro : Int), .nilIface] ∧ ∃ out, Became 80 g base cap A out wd w' ∧ Rt out H2 ∧ Held H bs H2 out ∧ Moved H bs (xo : Int) H2 out ro) (HK4.out.mono ?_) ?_
        · rintro e w' ⟨rfl, out, hB, hR⟩
          have hB' := hB
          obtain ⟨_, _, _, ht, _⟩ := hB'
          exact ⟨_, rfl, ht, rfl, out, hB, hR⟩
        rintro r w5 _ ⟨rfl, out, hbe, hr1, hh1, hm1⟩
        obtain ⟨j, y, hj, hy, hyo, hys, hyl, hrd⟩ := HRF.out out hr1 hh1 hm1
        obtain ⟨A5, c5, a5, t5, m5⟩ := hbe
        have n5 := (t5.block _ hlt4 HNB.out).trans HN4.out
        have ho5 := (t5.block q HP4.out.lt HNQ.out).trans HP4.out.obj
        have hout : out.length ≤ 16384 := (hr1.bound (by rw [HC2.out]; exact H0.out.c16)).1
        have hgb := rt_get hr1 (by rw [HC2.out]; exact H0.out.c16) (List.mem_of_getElem? hy)
        have HTR := Lib.hid (fun w6 (hb6 : Below w5.heap.size w5 w6) (b4 : List UInt8) w7 (k : Became 80 g base cap A5 b4 w6 w7) => (Became.trans a5 t5 m5 (k.after hb6)).after HBD.out)
        obtain ⟨yo, ys, yu⟩ := y
        dsimp only at hyo hys hyl hrd hgb
        subst hyo
        have hyo14 : yo ≤ 16384 := by omega
        obtain ⟨p2, hp2⟩ : ∃ p2, yo + 8 = p2 := ⟨_, rfl⟩
        have HFI := Lib.hid (fun w6 (hb6 : Below w5.heap.size w5 w6) => hfill_any (w := w6) ((hb6.block q (heap_lt ho5)).trans ho5) (a5.below hb6) H0.out.b62 hout yo ys f p2 165 hgb (by omega) (by omega) hp2)
        have HRD := Lib.hid hrd
        have hgi := HRO.out j hj
        rw [hp2] at hgi
        have HGI := Lib.hid hgi
        obtain ⟨⟨d0, d1, d2⟩, _⟩ := blk_cells n5
        have hlt5 := heap_lt' n5
        refine ⟨foot g A, fun _ _ h => h, ?_⟩
        refine set_last (l := ?la4) (t := []) ?hla4 ?htl4 ?_
        case hla4 => simp only [pick, List.getElem?_toArray, List.getElem?_cons_succ, List.getElem?_cons_zero]; rfl
        case htl4 => rfl
        simp only [Act.put, List.setIfInBounds_toArray, List.set_cons_zero, List.set_cons_succ]
        repeat (go_big_quiet_step (fail))
        refine wpQuiet_nil ?_
        clear hgi hp2 hr1 hh1 hm1 hj hy hrd hgb t5 m5 a5 n5 ho5 HRF HRO HK4 HN4 HP4
        go_wp2_with fail
        refine (HUS.out w5).mono ?_
        rintro e w6 ⟨rfl, hb6⟩
        have HF6 : Hid (Calls Tryz.prog 58 #[.pointer (some ⟨q, 0, none⟩), .int .i64 (yo : Int), .int .u64 (f : Int), .int .u8 165] w6 fun e w' => e = .returned (.int .u64 (p2 : Int)) ∧ Became 80 g base cap A5 (fillN out yo ys f 165) w6 w') := HFI.out w6 hb6
        have HT6 := Lib.hid (HTR.out w6 hb6)
        clear hb6 d0 d1 d2 hlt5 HFI HTR
        go_wp2_with fail
        refine HF6.out.mono ?_
        rintro e w7 ⟨rfl, hb7⟩
        have HT := Lib.hid (HT6.out _ w7 hb7)
        clear hb7 HF6 HT6
        go_wp2
        go_ret2
        rw [HGI.out]
        exact ⟨rfl, _, HT.out, HRD.out⟩
      · have hRB := realloc_bad hh hs (by rw [hp8]; exact herr)
        rw [hp8] at hRB
        have hz := (resize_zero H _ s herr).2.2
        have hK2 : ∀ w1, Below w.heap.size w w1 → Calls Tryz.prog 57 #[.pointer (some ⟨g, 0, none⟩), .int .i64 (xo : Int), .int .i64 (s : Int)] w1 fun e w' => e = .returned (.tuple #[.int .i64 0, .iface 68 (.int .i64 (H.resize (xo : Int) s).1.2)]) ∧ Below w1.heap.size w1 w' := fun w1 hb => (hK w1 hb).mono fun e w2 hr => hr.2 herr
        obtain ⟨ek, hek⟩ : ∃ ek, (H.resize (xo : Int) s).1.2 = ek := ⟨_, rfl⟩
        rw [hek] at hRB hz hK2
        have HRB := Lib.hid hRB
        have HK := Lib.hid hK2
        have H0 := Lib.hid h
        have HEN : Hid (errN ek = .iface 68 (.int .i64 ek)) := (show errN ek = _ by rcases hz with rfl | rfl <;> rfl)
        clear h hF hh hbk hpx hat hd hu hi hs hK hK2 herr hek hp8 hsz hRB hz
        go_enter Tryz.func26, Tryz.ntmps26
        go_wp2_with fail
        refine HF.out.mono ?_
        rintro e w2 ⟨rfl, hb⟩
        obtain ⟨w3, hw3⟩ : ∃ w3, w2.alloc (.cells #[.int .i64 (xo : Int), .int .i64 (xs : Int), .bool true] 82) = w3 := ⟨_, rfl⟩
        have n3 : w3.heap[w2.heap.size]? = some (.cells #[.int .i64 (xo : Int), .int .i64 (xs : Int), .bool true] 82 (0, 0)) := by rw [← hw3]; exact heap_alloc_new w2 _
        have HB3 : Hid (Below w.heap.size w w3) := (show Below _ _ _ by rw [← hw3]; exact hb.alloc hb.size _)
        have HW3 := Lib.hid hw3
        have HN3 := Lib.hid n3
        clear hb HF hw3 n3
        go_wp2_with (first | (rw [HW3.out]) | fail)
        refine (HND.out w3).mono ?_
        rintro e w4 ⟨rfl, hb4⟩
        have hb4' := HB3.out.trans (hb4.mono HB3.out.size)
        obtain ⟨wd, hwd⟩ : ∃ wd, w4.drew = wd := ⟨_, rfl⟩
        have hbd : Below w.heap.size w wd := by rw [← hwd]; exact hb4'.drew
        have n4 : wd.heap[w2.heap.size]? = some (.cells #[.int .i64 (xo : Int), .int .i64 (xs : Int), .bool true] 82 (0, 0)) := by rw [← hwd]; exact Loc.below hb4 _ _ HN3.out
        have hp4 := H0.out.below hbd
        have k0 := hp4.c0
        have hnq := hp4.ap
        have hnb := ar_ne hp4.ar n4
        obtain ⟨⟨d0, d1, d2⟩, _⟩ := blk_cells n4
        have HK4 := Lib.hid (HK.out wd hbd)
        have HBD := Lib.hid hbd
        have HWD := Lib.hid hwd
        have HNB := Lib.hid hnb
        have HNQ := Lib.hid hnq
        clear hb4 hb4' hwd hbd hp4 HK HND HN3 HW3 HB3 n4 hnb hnq
        go_wp2_with fail
        refine wp_region_set (foot g A) [([0, 1, 2, 3, 4, 5, 6], 7)] [8, 9, 10, 11, 12] [] (by kernel_rfl) (by kernel_rfl) (by kernel_rfl) (fun _ _ _ _ _ h => h) ?_
        rw [HWD.out]
        have q0 : ∀ z : LaterS (foot g A) wd, z.val.cell? ⟨q, 0, none⟩ = some (.pointer (some ⟨g, 0, none⟩)) := fun z => z.ext.cell k0 HNQ.out
        have q1 : ∀ z : LaterS (foot g A) wd, z.val.cell? ⟨w2.heap.size, 0, none⟩ = some (.int .i64 (xo : Int)) := fun z => z.ext.cell d0 HNB.out
        refine set_cons (l := ?seg2) ?hseg2 ?_
        case hseg2 => simp only [pick, List.getElem?_toArray, List.getElem?_cons_succ, List.getElem?_cons_zero]; rfl
        repeat (go_big_quiet_step (fail))
        refine wpQuiet_nil ?_
        clear q0 q1 k0 d0 d1 d2
        refine set_call (vs := #[.pointer (some ⟨g, 0, none⟩), .int .i64 (xo : Int), .int .i64 (s : Int)]) Tryz.call57 rfl rfl rfl (R := fun r w' => r = .tuple #[.int .i64 0, .iface 68 (.int .i64 ek)] ∧ Below wd.heap.size wd w') (HK4.out.mono ?_) ?_
        · rintro e w' ⟨rfl, hb⟩
          exact ⟨_, rfl, Tch.of_below hb, rfl, hb⟩
        rintro r w5 _ ⟨rfl, hb5⟩
        have HT := Lib.hid (H0.out.stay (HBD.out.trans (hb5.mono HBD.out.size)))
        refine ⟨foot g A, fun _ _ h => h, ?_⟩
        refine set_last (l := ?la5) (t := []) ?hla5 ?htl5 ?_
        case hla5 => simp only [pick, List.getElem?_toArray, List.getElem?_cons_succ, List.getElem?_cons_zero]; rfl
        case htl5 => rfl
        simp only [Act.put, List.setIfInBounds_toArray, List.set_cons_zero, List.set_cons_succ]
        repeat (go_big_quiet_step (fail))
        refine wpQuiet_nil ?_
        clear hb5 HK4 H0
        go_wp2
        go_ret2
        rw [HRB.out]
        exact ⟨by rw [HEN.out]; rfl, HT.out⟩
end
end Go.Proofs.YtbldlidpapdkbaaGreatDoor

/- The program's heap (layer 14): Read, Write. -/
namespace Go.Proofs.YtbldlidpapdkbaaGreatDoor
open Go.RowKit

/-- Bytes, an error's number. -/
def Hp.readP (H : Hp) (p a n : Nat) : List UInt8 × Int := match H.handleB p with
  | none => ([], 4)
  | some i => if (H.ds.getD i nilD).2.length < a + n then ([], 2) else (((H.ds.getD i nilD).2.drop a).take n, 0)
/-- An error's number, the heap then. -/
def Hp.writeP (H : Hp) (p a : Nat) (b : List UInt8) : Int × Hp := match H.handleB p with
  | none => (4, H)
  | some i => if (H.ds.getD i nilD).2.length < a + b.length then (2, H) else (0, H.dset i ((H.ds.getD i nilD).1, lay (H.ds.getD i nilD).2 a b))
/-- Bytes of the call's own, and an error. -/
def PBytes (r : List UInt8 × Int) (w : World) (e : Ending) (w' : World) : Prop :=
  ∃ A' c', e = .returned (.tuple #[.slice A' r.1.length c', errN r.2]) ∧ w'.ownsRow w.heap.size 5 1 (.slice A' r.1.length c') r.1.length (r.1.map bv) ∧ Below w.heap.size w w'
section
variable {w w' : World} {q g base cap c : Nat} {A : Option Addr} {bs out : List UInt8} {H H' : Hp}
theorem PBytes.none_ {k : Int} (hb : Below w.heap.size w w') : PBytes ([], k) w (.returned (.tuple #[.slice none 0 0, errN k])) w' := ⟨none, 0, rfl, World.ownsRow_nil _ _ _ _, hb⟩
theorem ownB_mono {w : World} {B B' n : Nat} {t : TypeId} {v : Value} {l : List Value} (h : w.ownsRow B t 1 v n l) (hB : B' ≤ B) : w.ownsRow B' t 1 v n l :=
  ⟨h.1, h.2.imp id fun ⟨g', cap', cur, a, b, c⟩ => ⟨g', cap', cur, a, Nat.le_trans hB b, c⟩⟩
theorem PH.part (h : PH w q g base cap A c bs H) {i xo xs a n : Nat} (hat : H.At i ⟨xo, xs, true⟩ (H.ds.getD i nilD)) (hf : a + n ≤ (H.ds.getD i nilD).2.length) : (bs.drop (xo + 8 + a)).take n = ((H.ds.getD i nilD).2.drop a).take n := by
  obtain ⟨h1, h2⟩ := h.rd.ho i _ _ hat rfl
  refine List.ext_getElem? fun k => ?_
  by_cases hk : k < n
  · rw [List.getElem?_take_of_lt hk, List.getElem?_take_of_lt hk, List.getElem?_drop, List.getElem?_drop]
    have := h2 (a + k) (by omega)
    dsimp only at this
    rw [← this]
    congr 1
    omega
  · rw [List.getElem?_eq_none (by rw [List.length_take]; omega), List.getElem?_eq_none (by rw [List.length_take]; omega)]

set_option maxRecDepth 100000 in
set_option maxHeartbeats 1000000 in
theorem hread_any (h : PH w q g base cap A c bs H) (p a n : Nat) (hp : p < 18446744073709551616) (ha : a < 18446744073709551616) (hn : n < 18446744073709551616) :
    Calls Tryz.prog 28 #[.pointer (some ⟨q, 0, none⟩), .int .u64 (p : Int), .int .u64 (a : Int), .int .u64 (n : Int)] w fun e w' => PBytes (H.readP p a n) w e w' := by
  unfold Hp.readP
  cases hh : H.handleB p with
  | none =>
    dsimp only
    have HF := Lib.hid (hplace_none h p a n hp hh)
    clear h hh
    go_enter Tryz.func28, Tryz.ntmps28
    go_wp2_with fail
    refine HF.out.mono ?_
    rintro e w2 ⟨rfl, hb⟩
    have HT := Lib.hid hb
    clear hb HF
    go_wp2
    go_ret2
    exact PBytes.none_ HT.out
  | some i =>
    dsimp only
    obtain ⟨L, hL⟩ : ∃ L, (H.ds.getD i nilD).2.length = L := ⟨_, rfl⟩
    by_cases hf : L < a + n
    · rw [if_pos (by omega)]
      have HF := Lib.hid (hplace_far h p a n hp ha hn hh hL hf)
      clear h hh hL
      go_enter Tryz.func28, Tryz.ntmps28
      go_wp2_with fail
      refine HF.out.mono ?_
      rintro e w2 ⟨rfl, hb⟩
      have HT := Lib.hid hb
      clear hb HF
      go_wp2
      go_ret2
      exact PBytes.none_ HT.out
    · rw [if_neg (by omega)]
      obtain ⟨xo, xs, hbk, hpx, h184, h32, hle, hi, hat, hd, h16, hu⟩ := h.blk hh
      have hl := h.len
      have hpart := h.part (a := a) (n := n) hat (by omega)
      obtain ⟨x, hx⟩ : ∃ x, base + p + a = x := ⟨_, rfl⟩
      have HF := Lib.hid (hplace_ok h p a n hp hn hh hL (by omega) hx)
      have hb62 := h.b62
      obtain ⟨ys, hys⟩ : ∃ ys, ((H.ds.getD i nilD).2.drop a).take n = ys := ⟨_, rfl⟩
      have HLD : ∀ W, Below w.heap.size w W → Calls Tryz.prog 61 #[.pointer (some ⟨g, 0, none⟩), .int .u64 (x : Int), .int .u64 (n : Int)] W fun e w' => Told ys W e w' := fun W hb => by
        have := load_ok (h.ar.below hb) (by omega) x n (xo + 8 + a) (by omega) (by omega) (by omega) (by omega)
        rw [hpart, hys] at this
        exact this
      rw [hys]
      have HLD := Lib.hid HLD
      have H0 := Lib.hid h
      clear h hh hL hf hbk hpx hat hd hu hi hpart hys hx hl h184 h32 hle h16 hb62
      go_enter Tryz.func28, Tryz.ntmps28
      go_wp2_with fail
      refine HF.out.mono ?_
      rintro e w2 ⟨rfl, hb⟩
      have k0 := (H0.out.below hb).c0
      have hlq := (H0.out.below hb).lt
      have HL2 := Lib.hid (HLD.out w2 hb)
      have HB := Lib.hid hb
      clear hb HF H0 HLD
      go_wp2_with fail
      refine HL2.out.mono ?_
      rintro e w3 ⟨A', c', rfl, ho, hb3⟩
      have HT : Hid (PBytes (ys, 0) w (.returned (.tuple #[.slice A' ys.length c', errN 0])) w3) := ⟨A', c', rfl, ownB_mono ho HB.out.size, HB.out.trans (hb3.mono HB.out.size)⟩
      clear ho hb3 HL2 HB k0
      go_wp2
      go_ret2
      exact HT.out
set_option maxRecDepth 100000 in
set_option maxHeartbeats 1000000 in
theorem hwrite_any (h : PH w q g base cap A c bs H) (p a : Nat) (b : List UInt8) (B : Option Addr) (k : Nat) (hr : Rd w w.heap.size B b.length b) (hp : p < 18446744073709551616) (ha : a < 18446744073709551616) (hbl : b.length ≤ 1000000) :
    Calls Tryz.prog 29 #[.pointer (some ⟨q, 0, none⟩), .int .u64 (p : Int), .int .u64 (a : Int), .slice B b.length k] w fun e w' => e = .returned (errN (H.writeP p a b).1) ∧ PTurn g base cap A (H.writeP p a b).2 w w' := by
  unfold Hp.writeP
  cases hh : H.handleB p with
  | none =>
    dsimp only
    have hF := hplace_none h p a b.length hp hh
    obtain ⟨n, hn⟩ : ∃ n, b.length = n := ⟨_, rfl⟩
    rw [hn] at hF hbl ⊢
    have HF := Lib.hid hF
    have H0 := Lib.hid h
    clear h hh hr hF
    go_enter Tryz.func29, Tryz.ntmps29
    go_wp2_with fail
    refine HF.out.mono ?_
    rintro e w2 ⟨rfl, hb⟩
    have HT := Lib.hid (H0.out.stay hb)
    clear hb HF H0
    go_wp2
    go_ret
    exact ⟨rfl, HT.out⟩
  | some i =>
    dsimp only
    obtain ⟨L, hL⟩ : ∃ L, (H.ds.getD i nilD).2.length = L := ⟨_, rfl⟩
    by_cases hf : L < a + b.length
    · rw [if_pos (by omega)]
      have hF := hplace_far h p a b.length hp ha (by omega) hh hL hf
      obtain ⟨n, hn⟩ : ∃ n, b.length = n := ⟨_, rfl⟩
      rw [hn] at hF hbl ⊢
      have HF := Lib.hid hF
      have H0 := Lib.hid h
      clear h hh hr hF hL
      go_enter Tryz.func29, Tryz.ntmps29
      go_wp2_with fail
      refine HF.out.mono ?_
      rintro e w2 ⟨rfl, hb⟩
      have HT := Lib.hid (H0.out.stay hb)
      clear hb HF H0
      go_wp2
      go_ret
      exact ⟨rfl, HT.out⟩
    · rw [if_neg (by omega)]
      obtain ⟨xo, xs, hbk, hpx, h184, h32, hle, hi, hat, hd, h16, hu⟩ := h.blk hh
      have hl := h.len
      obtain ⟨x, hx⟩ : ∃ x, base + p + a = x := ⟨_, rfl⟩
      have hF := hplace_ok h p a b.length hp (by omega) hh hL (by omega) hx
      have hb62 := h.b62
      have HWR := Lib.hid (h.rd.wrote hat rfl (H.ds.getD i nilD).1 a b (by omega))
      have HST : ∀ W, Below w.heap.size w W → Calls Tryz.prog 62 #[.pointer (some ⟨g, 0, none⟩), .int .u64 (x : Int), .slice B b.length k] W fun e w' => e = .returned .nilIface ∧ Became 80 g base cap A (lay bs (xo + 8 + a) b) W w' := fun W hb =>
        store_ok (h.ar.below hb) (by omega) x (xo + 8 + a) B k b w.heap.size (hr.below hb) (by omega) (by omega) (by omega) (by omega)
      obtain ⟨n, hn⟩ : ∃ n, b.length = n := ⟨_, rfl⟩
      rw [hn] at hF hbl HST ⊢
      have HST := Lib.hid HST
      have HF := Lib.hid hF
      have H0 := Lib.hid h
      clear h hh hL hf hbk hpx hat hd hu hi hx hl h184 h32 hle h16 hb62 hr hF hn
      go_enter Tryz.func29, Tryz.ntmps29
      go_wp2_with fail
      refine HF.out.mono ?_
      rintro e w2 ⟨rfl, hb⟩
      have k0 := (H0.out.below hb).c0
      have hlq := (H0.out.below hb).lt
      have HL2 := Lib.hid (HST.out w2 hb)
      have HB := Lib.hid hb
      clear hb HF H0 HST
      go_wp2_with fail
      refine HL2.out.mono ?_
      rintro e w3 ⟨rfl, hbe⟩
      have HT : Hid (PTurn g base cap A (H.dset i ((H.ds.getD i nilD).1, lay (H.ds.getD i nilD).2 a b)) w w3) := ⟨_, hbe.after HB.out, HWR.out⟩
      clear hbe HL2 HB HWR k0
      go_wp2
      go_ret
      exact ⟨rfl, HT.out⟩
end
end Go.Proofs.YtbldlidpapdkbaaGreatDoor

/- The program's heap (layer 14): Stats. -/
namespace Go.Proofs.YtbldlidpapdkbaaGreatDoor
open Go.RowKit

def stV (s : St5) : Value := .agg #[.int .i64 (s.used : Int), .int .i64 (s.free : Int), .int .i64 (s.bytes : Int), .int .i64 (s.len : Int), .int .i64 (s.cap : Int)]
/-- A row of five. -/
def stRow (a b c d e : Nat) : Array Value := #[.int .i64 (a : Int), .int .i64 (b : Int), .int .i64 (c : Int), .int .i64 (d : Int), .int .i64 (e : Int)]
theorem statL_snoc (l : List Bk) (x : Bk) : statL (l ++ [x]) = if x.used = true then ((statL l).1 + 1, (statL l).2.1, (statL l).2.2 + (x.size - 16)) else ((statL l).1, (statL l).2.1 + 1, (statL l).2.2) := by
  induction l with
  | nil => simp [statL]
  | cons y r ih =>
    rw [List.cons_append]
    unfold statL
    rw [ih]
    by_cases hx : x.used = true <;> by_cases hy : y.used = true <;> simp [hx, hy] <;> omega
theorem statL_le (l : List Bk) : (statL l).1 ≤ l.length ∧ (statL l).2.1 ≤ l.length ∧ (statL l).2.2 ≤ sumB l := by
  induction l with
  | nil => simp [statL, sumB]
  | cons y r ih =>
    unfold statL
    rw [List.length_cons]
    simp only [sumB]
    split <;> dsimp only <;> omega
theorem sumB_take_le (l : List Bk) (j : Nat) : sumB (l.take j) ≤ sumB l := by
  have := sumB_app (l.take j) (l.drop j)
  rw [List.take_append_drop] at this
  omega
theorem st_cells {w : World} {g : Nat} {t : TypeId} {a b c d e : Value} (h : w.heap[g]? = some (.cells #[a, b, c, d, e] t (0, 0))) :
    (w.cell? ⟨g, 0, none⟩ = some a ∧ w.cell? ⟨g, 1, none⟩ = some b ∧ w.cell? ⟨g, 2, none⟩ = some c ∧ w.cell? ⟨g, 3, none⟩ = some d ∧ w.cell? ⟨g, 4, none⟩ = some e) ∧
    (w.frozen? ⟨g, 0, none⟩ = false ∧ w.frozen? ⟨g, 1, none⟩ = false ∧ w.frozen? ⟨g, 2, none⟩ = false ∧ w.frozen? ⟨g, 3, none⟩ = false ∧ w.frozen? ⟨g, 4, none⟩ = false) := by
  refine ⟨⟨?_, ?_, ?_, ?_, ?_⟩, frozen_of_row w g 0 _ _ h, frozen_of_row w g 1 _ _ h, frozen_of_row w g 2 _ _ h, frozen_of_row w g 3 _ _ h, frozen_of_row w g 4 _ _ h⟩
  · rw [cell_of_row w g 0 _ _ (0, 0) h]; rfl
  · rw [cell_of_row w g 1 _ _ (0, 0) h]; rfl
  · rw [cell_of_row w g 2 _ _ (0, 0) h]; rfl
  · rw [cell_of_row w g 3 _ _ (0, 0) h]; rfl
  · rw [cell_of_row w g 4 _ _ (0, 0) h]; rfl
theorem st_set {w : World} {g : Nat} {t : TypeId} {a b c d e : Value} (h : w.heap[g]? = some (.cells #[a, b, c, d, e] t (0, 0))) (x0 x1 x2 x3 x4 : Value) :
    (((((w.setCell ⟨g, 0, none⟩ x0).setCell ⟨g, 1, none⟩ x1).setCell ⟨g, 2, none⟩ x2).setCell ⟨g, 3, none⟩ x3).setCell ⟨g, 4, none⟩ x4).heap[g]? = some (.cells #[x0, x1, x2, x3, x4] t (0, 0)) := by
  have h1 := heap_setCell_same w g 0 _ _ x0 h
  have h2 := heap_setCell_same _ g 1 _ _ x1 h1
  have h3 := heap_setCell_same _ g 2 _ _ x2 h2
  have h4 := heap_setCell_same _ g 3 _ _ x3 h3
  have h5 := heap_setCell_same _ g 4 _ _ x4 h4
  rw [h5]
  rfl
theorem alloc_sts (ρ : Operand → Value) (o : Oper) (ho : o.op = .alloc 43) (w : World) :
    (execOp ρ o).run Tryz.prog w = .ok (.value (.pointer (some ⟨w.heap.size, 0, none⟩))) (w.alloc (.cells #[.int .i64 0, .int .i64 0, .int .i64 0, .int .i64 0, .int .i64 0] 43)) := by
  unfold execOp
  simp only [ho]
  simp [go_sem]
set_option maxRecDepth 100000 in
theorem sts_ret {fn : Func} {R : Ending → World → Prop} {a : Act} {w : World} {p : Tmp} {g : Nat} {x0 x1 x2 x3 x4 : Int} (hres : fn.results = #[.cell p 43]) (hp : a.tmps.getD p undef = .pointer (some ⟨g, 0, none⟩)) (hd : a.defers = [])
    (hg : w.heap[g]? = some (.cells #[.int .i64 x0, .int .i64 x1, .int .i64 x2, .int .i64 x3, .int .i64 x4] 43 (0, 0))) (hR : R (.returned (.agg #[.int .i64 x0, .int .i64 x1, .int .i64 x2, .int .i64 x3, .int .i64 x4])) w) : bodyPost Tryz.prog fn R .ret a w := by
  refine bodyPost_ret (v := .agg #[.int .i64 x0, .int .i64 x1, .int .i64 x2, .int .i64 x3, .int .i64 x4]) ?_ hd hR
  exact results_cell_row hres _ _ g _ _ _ _ hp hg rfl rfl rfl
section
variable {w w' : World} {q g base cap c : Nat} {A : Option Addr} {bs out : List UInt8} {H H' : Hp}
set_option maxRecDepth 100000 in
set_option maxHeartbeats 4000000 in
theorem hstats_prog (h : PH w q g base cap A c bs H) :
    Calls Tryz.prog 30 #[.pointer (some ⟨q, 0, none⟩)] w fun e w' => e = .returned (stV H.stats) ∧ Below w.heap.size w w' := by
  have hl := h.len
  have hst : H.stats = ⟨(statL H.blks).1, (statL H.blks).2.1, (statL H.blks).2.2, bs.length, cap⟩ := by unfold Hp.stats; rw [h.rd.rt.lenE, h.cp]
  rw [hst]
  have hsum : 184 + sumB H.blks = bs.length := h.rd.rt.lenE
  have hbd := (h.rd.rt.bound (by rw [h.cp]; exact h.c16)).2
  have hwk := h.rd.rt.walk
  have hc16 := h.c16
  have hb62 := h.b62
  have hn512 := ((h.rd.rt.ok (by rw [h.cp]; exact h.c16) h.rd.dl)).n
  obtain ⟨l, hl0⟩ : ∃ l, H.blks = l := ⟨_, rfl⟩
  rw [hl0] at hsum hbd hwk hn512 ⊢
  obtain ⟨n, hn⟩ : ∃ n, bs.length = n := ⟨_, rfl⟩
  rw [hn] at hl hsum hbd ⊢
  obtain ⟨z1, hz1⟩ : ∃ z1, (statL l).1 = z1 := ⟨_, rfl⟩
  obtain ⟨z2, hz2⟩ : ∃ z2, (statL l).2.1 = z2 := ⟨_, rfl⟩
  obtain ⟨z3, hz3⟩ : ∃ z3, (statL l).2.2 = z3 := ⟨_, rfl⟩
  rw [hz1, hz2, hz3]
  have HZ := Lib.hid (show (statL l).1 = z1 ∧ (statL l).2.1 = z2 ∧ (statL l).2.2 = z3 from ⟨hz1, hz2, hz3⟩)
  clear hz1 hz2 hz3
  obtain ⟨w1, hw1⟩ : ∃ w1, w.alloc (.cells #[.int .i64 0, .int .i64 0, .int .i64 0, .int .i64 0, .int .i64 0] 43) = w1 := ⟨_, rfl⟩
  obtain ⟨wd, hwd⟩ : ∃ wd, w1.drew = wd := ⟨_, rfl⟩
  have hbd1 : Below w.heap.size w wd := by rw [← hwd, ← hw1]; exact ((Below.refl _ _).alloc (Nat.le_refl _) _).drew
  have n1 : wd.heap[w.heap.size]? = some (.cells #[.int .i64 0, .int .i64 0, .int .i64 0, .int .i64 0, .int .i64 0] 43 (0, 0)) := by rw [← hwd, ← hw1]; exact heap_alloc_new w _
  have h1 := h.below hbd1
  have k0 := h1.c0
  have hlq := h1.lt
  have hLN := len_any h1.ar
  have hCP := cap_any h1.ar
  rw [hn] at hLN
  have HLN := Lib.hid hLN
  have HNL := Lib.hid hn
  have HCP := Lib.hid hCP
  have HBD := Lib.hid hbd
  have HB1 := Lib.hid hbd1
  have HN1 := Lib.hid n1
  have HW1 := Lib.hid hw1
  have HWD := Lib.hid hwd
  have H1 := Lib.hid h1
  have HWK := Lib.hid hwk
  clear h hst hbd hw1 hwd hbd1 n1 h1 hLN hCP hn hwk hl0
  go_enter Tryz.func30, Tryz.ntmps30
  go_wp2_with (first | (rw [HW1.out]) | fail)
  refine Code.wp_mono (Q := fun ex a' w' => ex = .normal ∧ ∃ p, wd.heap.size ≤ p ∧ Below wd.heap.size wd w' ∧ w'.heap[p]? = some (.cells (stRow 0 0 0 n cap) 43 (0, 0)) ∧ a' = { tmps := #[.pointer (some ⟨q, 0, none⟩), undef, .pointer (some ⟨w.heap.size, 0, none⟩), .pointer (some ⟨p, 0, none⟩), undef, undef, undef, undef, .pointer (some ⟨q, 0, none⟩), .pointer (some ⟨q, 0, none⟩), .pointer (some ⟨q, 0, none⟩), .pointer (some ⟨g, 0, none⟩), .int .i64 (n : Int), .pointer (some ⟨q, 0, none⟩), .pointer (some ⟨q, 0, none⟩), .pointer (some ⟨q, 0, none⟩), .pointer (some ⟨g, 0, none⟩), .int .i64 (cap : Int), .agg #[.int .i64 0, .int .i64 0, .int .i64 0, .int .i64 (n : Int), .int .i64 (cap : Int)], undef, undef, undef, undef, undef, undef, undef, undef, undef, undef, undef, undef, undef, undef, undef, undef, undef, undef, undef, undef, undef, undef, undef, undef, undef, undef, undef, undef, undef, undef, undef, undef, undef], defers := [] }) ?cont ?reg
  case reg =>
    refine wp_region_plan wd.heap.size (.two [0, 1, 2, 3, 5, 6, 7, 8] 4 (.two [] 9 (.one [10] 11 (.fin [])) 11 (.one [] 9 (.fin [10]))) 11 (.one [] 4 (.one [] 9 (.fin [10])))) [12] (by kernel_rfl) (by kernel_rfl) (by kernel_rfl) (fun _ _ _ _ _ h => absurd h.1 (by nofun)) ?_
    rw [HWD.out]
    have q0 : ∀ z : LaterB wd.heap.size wd, z.val.cell? ⟨q, 0, none⟩ = some (.pointer (some ⟨g, 0, none⟩)) := fun z => (z.ext.cell (p := ⟨q, 0, none⟩) hlq).trans k0
    refine plan_two (l := ?seg1) ?hseg1 ?_
    case hseg1 => simp only [pick, List.getElem?_toArray, List.getElem?_cons_succ, List.getElem?_cons_zero]; rfl
    repeat (go_big_quiet_step (fail))
    refine wpQuiet_nil ?_
    clear q0 k0
    refine ⟨?wayA, ?wayC⟩
    case wayA =>
      refine tail_call (vs := #[.pointer (some ⟨g, 0, none⟩)]) Tryz.call17 rfl rfl rfl (R := fun r w' => r = .int .i64 (n : Int) ∧ w' = wd) (HLN.out.mono ?_) wd.heap.size (Nat.le_refl _) ?_
      · rintro e w' ⟨rfl, rfl⟩
        exact ⟨_, rfl, Below.refl _ _, rfl, rfl⟩
      rintro r w2 _ ⟨rfl, rfl⟩
      refine plan_two (l := []) rfl (wpQuiet_nil ?_)
      simp only [Act.put, List.setIfInBounds_toArray, List.set_cons_zero, List.set_cons_succ]
      refine ⟨?wayB, ?wayD⟩
      case wayB =>
        refine tail_call (vs := #[.pointer (some ⟨g, 0, none⟩)]) Tryz.call45 rfl rfl rfl (R := fun r w' => r = .int .i64 (cap : Int) ∧ w' = w2) (HCP.out.mono ?_) w2.heap.size (Nat.le_refl _) ?_
        · rintro e w' ⟨rfl, rfl⟩
          exact ⟨_, rfl, Below.refl _ _, rfl, rfl⟩
        rintro r w3 _ ⟨rfl, rfl⟩
        refine plan_one (l := ?seg2) ?hseg2 ?_
        case hseg2 => simp only [pick, List.getElem?_toArray, List.getElem?_cons_succ, List.getElem?_cons_zero]; rfl
        simp only [Act.put, List.setIfInBounds_toArray, List.set_cons_zero, List.set_cons_succ]
        repeat (go_big_quiet_step (fail))
        refine wpQuiet_nil ?_
        refine tail_val2 (some 3) rfl rfl rfl (alloc_sts _ _ rfl w3) ((Below.refl _ _).alloc (Nat.le_refl _) _) ⟨w3.heap.size, Nat.le_refl _, ?_⟩
        simp only [Act.put, List.setIfInBounds_toArray, List.set_cons_zero, List.set_cons_succ]
        refine plan_fin (l := []) (t := ?tl2) rfl ?htl2 (wpQuiet_nil ?_)
        case htl2 => simp only [pick, List.getElem?_toArray, List.getElem?_cons_succ, List.getElem?_cons_zero]; rfl
        go_wp2
        exact ⟨w3.heap.size, Nat.le_refl _, (Below.refl _ _).alloc (Nat.le_refl _) _, heap_alloc_new w3 _, rfl⟩
      case wayD =>
        refine tail_val2 (some 3) rfl rfl rfl (alloc_sts _ _ rfl w2) ((Below.refl _ _).alloc (Nat.le_refl _) _) ⟨w2.heap.size, Nat.le_refl _, ?_⟩
        simp only [Act.put, List.setIfInBounds_toArray, List.set_cons_zero, List.set_cons_succ]
        obtain ⟨w3, hw3⟩ : ∃ w3, w2.alloc (.cells #[.int .i64 0, .int .i64 0, .int .i64 0, .int .i64 0, .int .i64 0] 43) = w3 := ⟨_, rfl⟩
        have hb3 : Below w2.heap.size w2 w3 := by rw [← hw3]; exact (Below.refl _ _).alloc (Nat.le_refl _) _
        have n3 : w3.heap[w2.heap.size]? = some (.cells #[.int .i64 0, .int .i64 0, .int .i64 0, .int .i64 0, .int .i64 0] 43 (0, 0)) := by rw [← hw3]; exact heap_alloc_new w2 _
        rw [hw3]
        have hC3 := cap_any (H1.out.below hb3).ar
        refine plan_one (l := []) rfl (wpQuiet_nil ?_)
        refine tail_call (vs := #[.pointer (some ⟨g, 0, none⟩)]) Tryz.call45 rfl rfl rfl (R := fun r w' => r = .int .i64 (cap : Int) ∧ w' = w3) (hC3.mono ?_) w2.heap.size (Nat.le_refl _) ?_
        · rintro e w' ⟨rfl, rfl⟩
          exact ⟨_, rfl, Below.refl _ _, rfl, rfl⟩
        rintro r w4 _ ⟨rfl, rfl⟩
        refine plan_fin (l := ?la3) (t := ?tl3) ?hla3 ?htl3 ?_
        case hla3 => simp only [pick, List.getElem?_toArray, List.getElem?_cons_succ, List.getElem?_cons_zero]; rfl
        case htl3 => simp only [pick, List.getElem?_toArray, List.getElem?_cons_succ, List.getElem?_cons_zero]; rfl
        simp only [Act.put, List.setIfInBounds_toArray, List.set_cons_zero, List.set_cons_succ]
        repeat (go_big_quiet_step (fail))
        refine wpQuiet_nil ?_
        obtain ⟨⟨c0, c1, c2, c3, c4⟩, f0, f1, f2, f3, f4⟩ := st_cells n3
        have hlt3 := heap_lt n3
        have HB3 := Lib.hid hb3
        have HN3 := Lib.hid n3
        clear hw3 hb3 n3 hC3
        go_wp2
        exact ⟨w2.heap.size, Nat.le_refl _, ((((HB3.out.setCell (Nat.le_refl _) _).setCell (Nat.le_refl _) _).setCell (Nat.le_refl _) _).setCell (Nat.le_refl _) _).setCell (Nat.le_refl _) _, st_set HN3.out _ _ _ _ _, rfl⟩
    case wayC =>
      refine tail_val2 (some 3) rfl rfl rfl (alloc_sts _ _ rfl wd) ((Below.refl _ _).alloc (Nat.le_refl _) _) ⟨wd.heap.size, Nat.le_refl _, ?_⟩
      simp only [Act.put, List.setIfInBounds_toArray, List.set_cons_zero, List.set_cons_succ]
      obtain ⟨w3, hw3⟩ : ∃ w3, wd.alloc (.cells #[.int .i64 0, .int .i64 0, .int .i64 0, .int .i64 0, .int .i64 0] 43) = w3 := ⟨_, rfl⟩
      have hb3 : Below wd.heap.size wd w3 := by rw [← hw3]; exact (Below.refl _ _).alloc (Nat.le_refl _) _
      have n3 : w3.heap[wd.heap.size]? = some (.cells #[.int .i64 0, .int .i64 0, .int .i64 0, .int .i64 0, .int .i64 0] 43 (0, 0)) := by rw [← hw3]; exact heap_alloc_new wd _
      rw [hw3]
      have hC3 := cap_any (H1.out.below hb3).ar
      have hL3 := len_any (H1.out.below hb3).ar
      rw [HNL.out] at hL3
      refine plan_one (l := []) rfl (wpQuiet_nil ?_)
      refine tail_call (vs := #[.pointer (some ⟨g, 0, none⟩)]) Tryz.call17 rfl rfl rfl (R := fun r w' => r = .int .i64 (n : Int) ∧ w' = w3) (hL3.mono ?_) wd.heap.size (Nat.le_refl _) ?_
      · rintro e w' ⟨rfl, rfl⟩
        exact ⟨_, rfl, Below.refl _ _, rfl, rfl⟩
      rintro r w4 _ ⟨rfl, rfl⟩
      refine plan_one (l := []) rfl (wpQuiet_nil ?_)
      simp only [Act.put, List.setIfInBounds_toArray, List.set_cons_zero, List.set_cons_succ]
      refine tail_call (vs := #[.pointer (some ⟨g, 0, none⟩)]) Tryz.call45 rfl rfl rfl (R := fun r w' => r = .int .i64 (cap : Int) ∧ w' = w4) (hC3.mono ?_) wd.heap.size (Nat.le_refl _) ?_
      · rintro e w' ⟨rfl, rfl⟩
        exact ⟨_, rfl, Below.refl _ _, rfl, rfl⟩
      rintro r w5 _ ⟨rfl, rfl⟩
      refine plan_fin (l := ?la4) (t := ?tl4) ?hla4 ?htl4 ?_
      case hla4 => simp only [pick, List.getElem?_toArray, List.getElem?_cons_succ, List.getElem?_cons_zero]; rfl
      case htl4 => simp only [pick, List.getElem?_toArray, List.getElem?_cons_succ, List.getElem?_cons_zero]; rfl
      simp only [Act.put, List.setIfInBounds_toArray, List.set_cons_zero, List.set_cons_succ]
      repeat (go_big_quiet_step (fail))
      refine wpQuiet_nil ?_
      obtain ⟨⟨c0, c1, c2, c3, c4⟩, f0, f1, f2, f3, f4⟩ := st_cells n3
      have hlt3 := heap_lt n3
      have HB3 := Lib.hid hb3
      have HN3 := Lib.hid n3
      clear hw3 hb3 n3 hC3 hL3
      go_wp2
      exact ⟨wd.heap.size, Nat.le_refl _, ((((HB3.out.setCell (Nat.le_refl _) _).setCell (Nat.le_refl _) _).setCell (Nat.le_refl _) _).setCell (Nat.le_refl _) _).setCell (Nat.le_refl _) _, st_set HN3.out _ _ _ _ _, rfl⟩
  case cont =>
    rintro ex a' w2 ⟨rfl, p, hp, hb2, n2, rfl⟩
    have hb02 := HB1.out.trans (hb2.mono HB1.out.size)
    have h2 := H1.out.below hb2
    have k2 := h2.c0
    have hlq2 := h2.lt
    have hW := walkC w2 g base cap c A bs _ h2.ar hb62 (by rw [HNL.out]; exact hl) HWK.out
    dsimp only [BlksTold, Option.isSome, Option.getD, errV] at hW
    have HW := Lib.hid hW
    have HB2 := Lib.hid hb02
    have HN2 := Lib.hid n2
    have HNR := Lib.hid ((hb2.block w.heap.size (heap_lt HN1.out)).trans HN1.out)
    have HPW := Lib.hid (show p ≠ w.heap.size from fun e => by have := heap_lt HN1.out; omega)
    have HPG := Lib.hid (show w.heap.size ≤ p from Nat.le_trans HB1.out.size hp)
    have hpl2 := heap_lt n2
    clear h2 hW hb02 n2 hb2 hp HB1 HN1 HLN HCP H1 HW1 HWD hlq k0
    go_wp2_with fail
    refine HW.out.mono ?_
    rintro e w3 ⟨A3, c3, rfl, ho3, hb3⟩
    have hcl : l.length ≤ c3 ∧ c3 ≤ 9223372036854775807 := by
      rcases ho3.2 with ⟨h', h0⟩ | ⟨_, _, _, h', _, _, h1, h2, _⟩
      · injection h' with _ _ e; rw [h0, e]; omega
      · injection h' with _ _ e; unfold maxLen at h2; omega
    have HRB : Hid (∀ a, A3 = some a → w2.heap.size ≤ a.block) := fun a e => by subst e; exact (ho3.lt a.block rfl).1
    have HR := Lib.hid (BkRd.of_own ho3)
    have HN3 := Lib.hid ((hb3.block p hpl2).trans HN2.out)
    have HNR3 := Lib.hid ((hb3.block w.heap.size (heap_lt HNR.out)).trans HNR.out)
    have HB3 := Lib.hid (HB2.out.trans (hb3.mono HB2.out.size))
    have hpl3 := Nat.lt_of_lt_of_le hpl2 hb3.size
    clear ho3 hb3 HW HN2 HNR HB2 k2
    go_wp2
    go_loopw [29] (fun t wr => ∃ j : Nat, t = .int .i64 (j : Int) ∧ j ≤ l.length ∧ Tch (fun k => k = p) w3 wr ∧ wr.heap[p]? = some (.cells (stRow (statL (l.take j)).1 (statL (l.take j)).2.1 (statL (l.take j)).2.2 n cap) 43 (0, 0))) (fun t _ => l.length - (intOf t).toNat)
    case atStart => exact ⟨0, rfl, Nat.zero_le _, Tch.refl _ _, by rw [List.take_zero]; exact HN3.out⟩
    case round =>
      obtain ⟨j, rfl, hj, ht, hr⟩ := hrel
      have hle := statL_le (l.take j)
      have hsb := sumB_take_le l j
      have hlt0 : (l.take j).length ≤ 512 := by rw [List.length_take]; omega
      have nR := (ht.block w.heap.size (heap_lt HNR3.out) (Ne.symm HPW.out)).trans HNR3.out
      have hfin : Below w.heap.size w wr := HB3.out.trans (ht.below (fun k hk => by rw [hk]; exact HPG.out) HB3.out.size)
      by_cases hlt : j < l.length
      · obtain ⟨x, hx⟩ : ∃ x, l[j]? = some x := ⟨l[j], List.getElem?_eq_getElem hlt⟩
        have htk : l.take (j + 1) = l.take j ++ [x] := by
          rw [List.take_add_one, hx]; rfl
        have hsn := statL_snoc (l.take j) x
        rw [← htk] at hsn
        have hsz := HBD.out x (List.mem_of_getElem? hx)
        have hle2 := statL_le (l.take (j + 1))
        have hsb2 := sumB_take_le l (j + 1)
        obtain ⟨b2, q2, rfl, hbb, hcl2⟩ := HR.out (by omega)
        have hb2p : ¬ (fun k => k = p) b2 := fun e => by
          have e : b2 = p := e
          have := HRB.out _ rfl
          dsimp only at this
          omega
        obtain ⟨p0, p1, p2⟩ := hcl2 j x hx
        have r0 := ht.cell p0 hb2p
        have r1 := ht.cell p1 hb2p
        have r2 := ht.cell p2 hb2p
        obtain ⟨xo, xs, xu⟩ := x
        dsimp only at p0 p1 p2 r0 r1 r2 hsz hsn
        obtain ⟨s1, hs1⟩ : ∃ s1, (statL (l.take j)).1 = s1 := ⟨_, rfl⟩
        obtain ⟨s2, hs2⟩ : ∃ s2, (statL (l.take j)).2.1 = s2 := ⟨_, rfl⟩
        obtain ⟨s3, hs3⟩ : ∃ s3, (statL (l.take j)).2.2 = s3 := ⟨_, rfl⟩
        rw [hs1, hs2, hs3] at hr hle hsn
        have hS : Hid (s1 ≤ 512 ∧ s2 ≤ 512 ∧ s3 ≤ 16384) := (show _ from ⟨by omega, by omega, by omega⟩)
        obtain ⟨hs1', hs2', hs3'⟩ := hS.out
        obtain ⟨w4, hw4⟩ : ∃ w4, wr.alloc (.cells #[.int .i64 (xo : Int), .int .i64 (xs : Int), .bool xu] 82) = w4 := ⟨_, rfl⟩
        have hb4 : Below wr.heap.size wr w4 := by rw [← hw4]; exact (Below.refl _ _).alloc (Nat.le_refl _) _
        have n4 : w4.heap[wr.heap.size]? = some (.cells #[.int .i64 (xo : Int), .int .i64 (xs : Int), .bool xu] 82 (0, 0)) := by rw [← hw4]; exact heap_alloc_new wr _
        have r4 := (hb4.block p (heap_lt hr)).trans hr
        have T4 := Lib.hid (ht.trans (Tch.of_below (S := fun k => k = p) hb4) (fun _ _ h => h))
        obtain ⟨⟨d0, d1, d2⟩, _⟩ := blk_cells n4
        have hlt4 := heap_lt' n4
        have hltp := heap_lt' r4
        obtain ⟨⟨v0, v1, v2, v3, v4⟩, f0, f1, f2, f3, f4⟩ := st_cells r4
        have HW4 := Lib.hid hw4
        have HR4 := Lib.hid r4
        have HN4 := Lib.hid n4
        have HPN := Lib.hid (show wr.heap.size ≠ p from fun e => by have := heap_lt hr; omega)
        cases xu with
        | true =>
          rw [if_pos rfl] at hsn
          have HUS := Lib.hid (fun W => husable_any W (xo : Int) xs true (by omega) (by omega))
          obtain ⟨L, hL⟩ : ∃ L, xs - 16 = L := ⟨_, rfl⟩
          rw [hL] at HUS hsn
          have hL14 : L ≤ 16384 := by omega
          obtain ⟨s5, hs5⟩ : ∃ s5, s1 + 1 = s5 := ⟨_, rfl⟩
          obtain ⟨s6, hs6⟩ : ∃ s6, s3 + L = s6 := ⟨_, rfl⟩
          have e5 : (s1 : Int) + 1 = (s5 : Int) := by omega
          have e6 : (s3 : Int) + (L : Int) = (s6 : Int) := by omega
          rw [hs5, hs6] at hsn
          have HSN := Lib.hid hsn
          have hs5' : s5 ≤ 513 := by omega
          have hs6' : s6 ≤ 32768 := by omega
          obtain ⟨w5, hw5⟩ : ∃ w5, w4.setCell ⟨p, 0, none⟩ (.int .i64 (s5 : Int)) = w5 := ⟨_, rfl⟩
          obtain ⟨we, hwe⟩ : ∃ we, w5.drew = we := ⟨_, rfl⟩
          have r5 : we.heap[p]? = some (.cells (stRow s5 s2 s3 n cap) 43 (0, 0)) := by
            rw [← hwe, ← hw5]
            exact heap_setCell_same w4 p 0 _ _ (.int .i64 (s5 : Int)) r4
          have n5 : we.heap[wr.heap.size]? = some (.cells #[.int .i64 (xo : Int), .int .i64 (xs : Int), .bool true] 82 (0, 0)) := by
            rw [← hwe, ← hw5]
            exact (Below.heap_setCell w4 ⟨p, 0, none⟩ _ wr.heap.size HPN.out).trans n4
          have T5 : Tch (fun k => k = p) w3 we := by
            rw [← hwe, ← hw5]
            exact (T4.out.trans (Tch.set (S := fun k => k = p) w4 ⟨p, 0, none⟩ _ rfl) (fun _ _ h => h)).drew
          have HW5 := Lib.hid hw5
          have HWE := Lib.hid hwe
          have HR5 := Lib.hid r5
          have HT5 := Lib.hid T5
          have hlt5 := heap_lt' n5
          have hltp5 := heap_lt' r5
          obtain ⟨⟨e0, e1, e2⟩, _⟩ := blk_cells n5
          obtain ⟨⟨u0, u1, u2, u3, u4⟩, _⟩ := st_cells r5
          clear hx htk hsn hsz hcl2 p0 p1 p2 ht hr hs1 hs2 hs3 hle hsb hlt0 hle2 hsb2 nR hfin hw4 hb4 n4 r4 hL hS hw5 hwe r5 n5 T5 T4 HR4 HN4 hs5 hs6
          go_wp2_with (first | (rw [HW4.out]) | (rw [HW5.out]) | fail)
          refine wp_region_tail we.heap.size [([0, 1, 2], 3)] [4, 5, 6] [7] (by kernel_rfl) (by kernel_rfl) (by kernel_rfl) (fun _ _ _ _ _ h => h) ?_
          rw [HWE.out]
          have q0 : ∀ z : LaterB we.heap.size we, z.val.cell? ⟨p, 2, none⟩ = some (.int .i64 (s3 : Int)) := fun z => (z.ext.cell (p := ⟨p, 2, none⟩) hltp5).trans u2
          have q1 : ∀ z : LaterB we.heap.size we, z.val.cell? ⟨wr.heap.size, 0, none⟩ = some (.int .i64 (xo : Int)) := fun z => (z.ext.cell (p := ⟨wr.heap.size, 0, none⟩) hlt5).trans e0
          have q2 : ∀ z : LaterB we.heap.size we, z.val.cell? ⟨wr.heap.size, 1, none⟩ = some (.int .i64 (xs : Int)) := fun z => (z.ext.cell (p := ⟨wr.heap.size, 1, none⟩) hlt5).trans e1
          have q3 : ∀ z : LaterB we.heap.size we, z.val.cell? ⟨wr.heap.size, 2, none⟩ = some (.bool true) := fun z => (z.ext.cell (p := ⟨wr.heap.size, 2, none⟩) hlt5).trans e2
          refine tail_cons (l := ?seg5) ?hseg5 ?_
          case hseg5 => simp only [pick, List.getElem?_toArray, List.getElem?_cons_succ, List.getElem?_cons_zero]; rfl
          repeat (go_big_quiet_step (fail))
          refine wpQuiet_nil ?_
          clear q0 q1 q2 q3 u0 u1 u2 u3 u4 e0 e1 e2 v0 v1 v2 v3 v4 f0 f1 f2 f3 f4 d0 d1 d2 hlt4 hltp
          refine tail_call (vs := #[.agg #[.int .i64 (xo : Int), .int .i64 (xs : Int), .bool true]]) Tryz.call59 rfl rfl rfl (R := fun r w' => r = .int .u64 (L : Int) ∧ Below we.heap.size we w') ((HUS.out we).mono ?_) we.heap.size (Nat.le_refl _) ?_
          · rintro e w' ⟨rfl, hb⟩
            exact ⟨_, rfl, hb, rfl, hb⟩
          rintro r w6 _ ⟨rfl, hb6⟩
          have r6 := (hb6.block p hltp5).trans HR5.out
          obtain ⟨⟨u0, u1, u2, u3, u4⟩, f0, f1, f2, f3, f4⟩ := st_cells r6
          have hlt6 := heap_lt' r6
          have HFN : Hid (Tch (fun k => k = p) w3 (w6.setCell ⟨p, 2, none⟩ (.int .i64 (s6 : Int))) ∧ (w6.setCell ⟨p, 2, none⟩ (.int .i64 (s6 : Int))).heap[p]? = some (.cells (stRow s5 s2 s6 n cap) 43 (0, 0))) :=
            ⟨(HT5.out.trans (Tch.of_below (S := fun k => k = p) hb6) (fun _ _ h => h)).trans (Tch.set (S := fun k => k = p) w6 ⟨p, 2, none⟩ _ rfl) (fun _ _ h => h), heap_setCell_same w6 p 2 _ _ (.int .i64 (s6 : Int)) r6⟩
          clear hb6 r6
          refine tail_last (l := ?la6) (t := ?tl6) ?hla6 ?htl6 ?_
          case hla6 => simp only [pick, List.getElem?_toArray, List.getElem?_cons_succ, List.getElem?_cons_zero]; rfl
          case htl6 => simp only [pick, List.getElem?_toArray, List.getElem?_cons_succ, List.getElem?_cons_zero]; rfl
          simp only [Act.put, List.setIfInBounds_toArray, List.set_cons_zero, List.set_cons_succ]
          repeat (go_big_quiet_step (fail))
          refine wpQuiet_nil ?_
          go_wp2
          go_roundw
          case rel => exact ⟨j + 1, by go_num, by omega, HFN.out.1, by rw [HSN.out]; exact HFN.out.2⟩
          case measure => simp only [intOf]; omega
        | false =>
          rw [if_neg (by decide)] at hsn
          obtain ⟨s5, hs5⟩ : ∃ s5, s2 + 1 = s5 := ⟨_, rfl⟩
          have e5 : (s2 : Int) + 1 = (s5 : Int) := by omega
          rw [hs5] at hsn
          have HSN := Lib.hid hsn
          have hs5' : s5 ≤ 513 := by omega
          have HFN : Hid (Tch (fun k => k = p) w3 (w4.setCell ⟨p, 1, none⟩ (.int .i64 (s5 : Int))) ∧ (w4.setCell ⟨p, 1, none⟩ (.int .i64 (s5 : Int))).heap[p]? = some (.cells (stRow s1 s5 s3 n cap) 43 (0, 0))) :=
            ⟨T4.out.trans (Tch.set (S := fun k => k = p) w4 ⟨p, 1, none⟩ _ rfl) (fun _ _ h => h), heap_setCell_same w4 p 1 _ _ (.int .i64 (s5 : Int)) r4⟩
          clear hx htk hsn hsz hcl2 p0 p1 p2 ht hr hs1 hs2 hs3 hle hsb hlt0 hle2 hsb2 nR hfin hw4 hb4 n4 r4 hS hs5 T4 HR4 HN4
          go_wp2_with (first | (rw [HW4.out]) | fail)
          go_roundw
          case rel => exact ⟨j + 1, by go_num, by omega, HFN.out.1, by rw [HSN.out]; exact HFN.out.2⟩
          case measure => simp only [intOf]; omega
      · have htl : l.take j = l := List.take_of_length_le (by omega)
        rw [htl, HZ.out.1, HZ.out.2.1, HZ.out.2.2] at hr
        obtain ⟨⟨v0, v1, v2, v3, v4⟩, _⟩ := st_cells hr
        obtain ⟨⟨c0, c1, c2, c3', c4⟩, f0, f1, f2, f3, f4⟩ := st_cells nR
        have hltr := heap_lt' nR
        have hltp := heap_lt' hr
        have NR := Lib.hid nR
        have HF := Lib.hid hfin
        clear hr hle hsb hlt0 ht nR hfin htl
        go_wp2
        (try simp only [Exit.inBlock, Exit.then])
        refine sts_ret (g := w.heap.size) (x0 := (z1 : Int)) (x1 := (z2 : Int)) (x2 := (z3 : Int)) (x3 := (n : Int)) (x4 := (cap : Int)) Tryz.results30 ?_ ?_ (st_set NR.out _ _ _ _ _) ?_
        · rfl
        · rfl
        · exact ⟨rfl, ((((HF.out.setCell (Nat.le_refl _) _).setCell (Nat.le_refl _) _).setCell (Nat.le_refl _) _).setCell (Nat.le_refl _) _).setCell (Nat.le_refl _) _⟩
end
end Go.Proofs.YtbldlidpapdkbaaGreatDoor

/- The program's set of places (a map whose keys are places), as a word of its own: which places it has, and how many. -/
namespace Go.Proofs.YtbldlidpapdkbaaGreatDoor
open Go.RowKit

/-- What a place reads as. -/
def pk (o k : Nat) : Lit := .string (keyBytes [.int .i64 (o : Int), .int .i64 (k : Int)])
/-- Block B is a map of at most n places, and just those of f, which are z. -/
def PSet (w : World) (B n : Nat) (f : Nat → Nat → Bool) (z : Nat) : Prop := ∃ D : DataW Unit, w.ownsMap Tryz.prog 150 (plainElem Tryz.prog 4) B n D ∧
  (∀ kl, Maps.has D kl = true → ∀ y, D.atKey kl y = .lit (.bool true)) ∧ (∀ o k, o ≤ 100000 → k ≤ 100 → Maps.has D (pk o k) = f o k) ∧ Maps.size D = z

section
variable {w w' : World} {B n z : Nat} {f : Nat → Nat → Bool}
theorem PSet.made (w : World) : PSet (w.alloc (.map #[] 0)) w.heap.size 0 (fun _ _ => false) 0 :=
  ⟨.map [], World.ownsMap_made _ _ _ _, fun kl h => absurd h (by simp [Maps.has]), fun _ _ _ _ => rfl, rfl⟩
theorem PSet.lt (h : PSet w B n f z) : B < w.heap.size := by
  obtain ⟨D, ho, _⟩ := h
  exact ho.lt
theorem PSet.keep (h : PSet w B n f z) (hb : w'.heap[B]? = w.heap[B]?) : PSet w' B n f z := by
  obtain ⟨D, ⟨es, clock, h1, h2⟩, h3⟩ := h
  exact ⟨D, ⟨es, clock, hb.trans h1, h2⟩, h3⟩
theorem PSet.mono {n' : Nat} (h : PSet w B n f z) (hn : n ≤ n') : PSet w B n' f z := by
  obtain ⟨D, h1, h2⟩ := h
  exact ⟨D, h1.mono hn, h2⟩
theorem PSet.below {B0 : Nat} (h : PSet w B n f z) (hb : Below B0 w w') (hB : B < B0) : PSet w' B n f z := h.keep (hb.block B hB)
theorem PSet.same {f' : Nat → Nat → Bool} (h : PSet w B n f z) (hf : ∀ o k, o ≤ 100000 → k ≤ 100 → f o k = f' o k) : PSet w B n f' z := by
  obtain ⟨D, h1, h2, h3, h4⟩ := h
  exact ⟨D, h1, h2, fun o k ho hk => (h3 o k ho hk).trans (hf o k ho hk), h4⟩
end

section
variable {w : World} {ops : Array Oper} {rest : List Oper} {o : Oper} {a : Act} {Q : Exit → Act → World → Prop} {B n z : Nat} {f : Nat → Nat → Bool}

end
end Go.Proofs.YtbldlidpapdkbaaGreatDoor

/- The program's check (layer 11): free blocks that stand next to each other, bits of no class, the places of all free blocks. -/
namespace Go.Proofs.YtbldlidpapdkbaaGreatDoor
open Go.RowKit

section
variable {w : World} {g base cap c : Nat} {A : Option Addr} {bs : List UInt8}

theorem below_cells {B : Nat} {w w' : World} (h : Below B w w') {b j : Nat} {v : Value} (hc : w.cell? ⟨b, j, none⟩ = some v) (hb : b < B) : w'.cell? ⟨b, j, none⟩ = some v :=
  (h.cell (p := ⟨b, j, none⟩) hb).trans hc

end
end Go.Proofs.YtbldlidpapdkbaaGreatDoor

/- The program's check (layer 11): the places of all free blocks. -/
namespace Go.Proofs.YtbldlidpapdkbaaGreatDoor
open Go.RowKit

end Go.Proofs.YtbldlidpapdkbaaGreatDoor

/- The contract of the program's Check. -/
namespace Go.Proofs.YtbldlidpapdkbaaGreatDoor
open Go.RowKit

theorem BkRd.later {w w' : World} {B B' : Nat} {A : Option Addr} {l : List Bk} (h : BkRd w B A l) (hb : Below B w w') (hB : B ≤ B') : BkRd w' B' A l := fun h0 => by
  obtain ⟨b, o, e, hbb, hc⟩ := h h0
  refine ⟨b, o, e, by omega, fun j x hx => ?_⟩
  obtain ⟨p0, p1, p2⟩ := hc j x hx
  exact ⟨below_cells hb p0 hbb, below_cells hb p1 hbb, below_cells hb p2 hbb⟩
end Go.Proofs.YtbldlidpapdkbaaGreatDoor

/- The contract of the program's Check: all of it. -/
namespace Go.Proofs.YtbldlidpapdkbaaGreatDoor
open Go.RowKit

end Go.Proofs.YtbldlidpapdkbaaGreatDoor

/- The program's heap (layer 14): New, Of, Arena, Widen, Rebuild. -/
namespace Go.Proofs.YtbldlidpapdkbaaGreatDoor
open Go.RowKit

/-- A new heap. -/
def PMade (base cap : Nat) (H : Hp) (w : World) (e : Ending) (w' : World) : Prop :=
  ∃ q g A c bs, e = .returned (.tuple #[.pointer (some ⟨q, 0, none⟩), .nilIface]) ∧ PH w' q g base cap A c bs H ∧ Below w.heap.size w w' ∧ w.heap.size ≤ q ∧ w.heap.size ≤ g ∧ ∀ a, A = some a → w.heap.size ≤ a.block
section
variable {w w' : World} {q g base cap c : Nat} {A : Option Addr} {bs out : List UInt8} {H H' : Hp}
set_option maxHeartbeats 1000000 in
theorem hnew_bad (w : World) (base : Nat) (hb : base < 18446744073709551616) (cap : Int) (hc : -9223372036854775808 ≤ cap ∧ cap ≤ 9223372036854775807) (h : base % 16 ≠ 0 ∨ 4611686018427387904 < base ∨ cap < 1024 ∨ 16384 < cap) :
    Calls Tryz.prog 6 #[.int .u64 (base : Int), .int .i64 cap] w fun e w' => e = .returned (.tuple #[.pointer none, errN 1]) ∧ w = w' := by
  have HN := Lib.hid (new_no w base cap hb hc h)
  clear h
  go_enter Tryz.func6, Tryz.ntmps6
  go_wp2_with fail
  refine HN.out.mono ?_
  rintro e w2 ⟨rfl, rfl⟩
  go_wp2
  go_ret2
  exact ⟨rfl, rfl⟩
set_option maxHeartbeats 1000000 in
theorem hnew_good (w : World) (base cap : Nat) (h1 : base % 16 = 0) (h2 : base ≤ 4611686018427387904) (h3 : 1024 ≤ cap) (h4 : cap ≤ 16384) :
    Calls Tryz.prog 6 #[.int .u64 (base : Int), .int .i64 (cap : Int)] w fun e w' => PMade base cap (hpZero cap) w e w' := by
  obtain ⟨z, hz⟩ : ∃ z, List.replicate 184 (0 : UInt8) = z := ⟨_, rfl⟩
  have HZ := Lib.hid (rtd_zero hz cap (by omega))
  have HN := Lib.hid (new_yes w base cap h1 h2 h3 h4)
  have hG : ∀ W g c A, Ar W 80 g base cap A c [] → Calls Tryz.prog 32 #[.pointer (some ⟨g, 0, none⟩), .int .i64 184] W fun e w' => e = .returned .nilIface ∧ Became 80 g base cap A z W w' := fun W g c A ha => by
    have := grow_ok ha 184 (by simp) h4 (by simp; omega)
    rw [List.nil_append, hz] at this
    exact this
  have HG := Lib.hid hG
  clear hG hz
  go_enter Tryz.func6, Tryz.ntmps6
  go_wp2_with fail
  refine HN.out.mono ?_
  rintro e w2 ⟨rfl, ha, hb⟩
  have HG2 := Lib.hid (HG.out w2 _ _ _ ha)
  have HB2 := Lib.hid hb
  have HL2 := Lib.hid ha.lt
  clear ha hb HG HN
  go_wp2_with fail
  refine HG2.out.mono ?_
  rintro e w3 ⟨rfl, A3, c3, a3, t3, m3⟩
  have hft : ∀ k, foot w.heap.size none k → w.heap.size ≤ k := fun k hk => by
    rcases hk with rfl | ⟨a, e, _⟩
    · exact Nat.le_refl _
    · exact absurd e (by nofun)
  have hb3 : Below w.heap.size w w3 := HB2.out.trans (t3.below hft HB2.out.size)
  have hA3 : ∀ a, A3 = some a → w.heap.size ≤ a.block := fun a e => by
    rcases m3 with h | h
    · rw [h] at e; cases e
    · exact Nat.le_trans HB2.out.size (h a e)
  obtain ⟨w4, hw4⟩ : ∃ w4, w3.alloc (.cells #[.pointer (some ⟨w.heap.size, 0, none⟩)] 72) = w4 := ⟨_, rfl⟩
  have hb4 : Below w3.heap.size w3 w4 := by rw [← hw4]; exact (Below.refl _ _).alloc (Nat.le_refl _) _
  have n4 : w4.heap[w3.heap.size]? = some (.cells #[.pointer (some ⟨w.heap.size, 0, none⟩)] 72 (0, 0)) := by rw [← hw4]; exact heap_alloc_new w3 _
  have HF : Hid (PMade base cap (hpZero cap) w (.returned (.tuple #[.pointer (some ⟨w3.heap.size, 0, none⟩), .nilIface])) w4) :=
    ⟨_, _, A3, c3, z, rfl, ⟨n4, a3.below hb4, HZ.out, rfl, h4, h2⟩, hb3.trans (hb4.mono hb3.size), hb3.size, Nat.le_refl _, hA3⟩
  have HW4 := Lib.hid hw4
  clear a3 t3 m3 hft hb3 hA3 hw4 hb4 n4 HG2 HB2 HL2
  go_wp2_with (first | (rw [HW4.out]) | fail)
  go_ret2
  exact HF.out
end
end Go.Proofs.YtbldlidpapdkbaaGreatDoor

/- The program's heap (layer 14): Do, a theorem a way (genhea9.py). -/
namespace Go.Proofs.YtbldlidpapdkbaaGreatDoor
open Go.RowKit

/-- A reply's row. -/
def rpRow (r : Rp) (A : Option Addr) (c : Nat) : Array Value := #[.int .i64 r.code, .int .u64 (r.hd : Int), .int .u64 (r.n : Int), .slice A r.b.length c, .int .i64 (r.st.used : Int), .int .i64 (r.st.free : Int), .int .i64 (r.st.bytes : Int), .int .i64 (r.st.len : Int), .int .i64 (r.st.cap : Int)]
def rpV (r : Rp) (A : Option Addr) (c : Nat) : Value := .agg (rpRow r A c)
def rp0 : Array Value := #[.int .i64 0, .int .u64 0, .int .u64 0, .slice none 0 0, .int .i64 0, .int .i64 0, .int .i64 0, .int .i64 0, .int .i64 0]
/-- A reply whose bytes are the call's own. -/
def DoTold (r : Rp) (w : World) (e : Ending) (w' : World) : Prop := ∃ A' c', e = .returned (rpV r A' c') ∧ w'.ownsRow w.heap.size 5 1 (.slice A' r.b.length c') r.b.length (r.b.map bv)
/-- A call's value. -/
def callV (op : Int) (p n m a : Nat) (B : Option Addr) (bl k : Nat) : Value := .agg #[.int .i64 op, .int .u64 (p : Int), .int .u64 (n : Int), .int .u64 (m : Int), .int .u64 (a : Int), .slice B bl k]
section
variable {w w' w4 w5 : World} {q g base cap c : Nat} {A : Option Addr} {bs out : List UInt8} {H H' : Hp}
theorem rp_cells {x0 x1 x2 x3 x4 x5 x6 x7 x8 : Value} {g : Nat} {t : TypeId} (h : w.heap[g]? = some (.cells #[x0, x1, x2, x3, x4, x5, x6, x7, x8] t (0, 0))) :
    (w.cell? ⟨g, 0, none⟩ = some x0 ∧ w.cell? ⟨g, 1, none⟩ = some x1 ∧ w.cell? ⟨g, 2, none⟩ = some x2 ∧ w.cell? ⟨g, 3, none⟩ = some x3 ∧ w.cell? ⟨g, 4, none⟩ = some x4 ∧ w.cell? ⟨g, 5, none⟩ = some x5 ∧ w.cell? ⟨g, 6, none⟩ = some x6 ∧ w.cell? ⟨g, 7, none⟩ = some x7 ∧ w.cell? ⟨g, 8, none⟩ = some x8) ∧
    (w.frozen? ⟨g, 0, none⟩ = false ∧ w.frozen? ⟨g, 1, none⟩ = false ∧ w.frozen? ⟨g, 2, none⟩ = false ∧ w.frozen? ⟨g, 3, none⟩ = false ∧ w.frozen? ⟨g, 4, none⟩ = false ∧ w.frozen? ⟨g, 5, none⟩ = false ∧ w.frozen? ⟨g, 6, none⟩ = false ∧ w.frozen? ⟨g, 7, none⟩ = false ∧ w.frozen? ⟨g, 8, none⟩ = false) := by
  refine ⟨⟨?_, ?_, ?_, ?_, ?_, ?_, ?_, ?_, ?_⟩, frozen_of_row w g 0 _ _ h, frozen_of_row w g 1 _ _ h, frozen_of_row w g 2 _ _ h, frozen_of_row w g 3 _ _ h, frozen_of_row w g 4 _ _ h, frozen_of_row w g 5 _ _ h, frozen_of_row w g 6 _ _ h, frozen_of_row w g 7 _ _ h, frozen_of_row w g 8 _ _ h⟩
  · rw [cell_of_row w g 0 _ _ (0, 0) h]; rfl
  · rw [cell_of_row w g 1 _ _ (0, 0) h]; rfl
  · rw [cell_of_row w g 2 _ _ (0, 0) h]; rfl
  · rw [cell_of_row w g 3 _ _ (0, 0) h]; rfl
  · rw [cell_of_row w g 4 _ _ (0, 0) h]; rfl
  · rw [cell_of_row w g 5 _ _ (0, 0) h]; rfl
  · rw [cell_of_row w g 6 _ _ (0, 0) h]; rfl
  · rw [cell_of_row w g 7 _ _ (0, 0) h]; rfl
  · rw [cell_of_row w g 8 _ _ (0, 0) h]; rfl
theorem cl_cells {x0 x1 x2 x3 x4 x5 : Value} {g : Nat} {t : TypeId} (h : w.heap[g]? = some (.cells #[x0, x1, x2, x3, x4, x5] t (0, 0))) :
    w.cell? ⟨g, 0, none⟩ = some x0 ∧ w.cell? ⟨g, 1, none⟩ = some x1 ∧ w.cell? ⟨g, 2, none⟩ = some x2 ∧ w.cell? ⟨g, 3, none⟩ = some x3 ∧ w.cell? ⟨g, 4, none⟩ = some x4 ∧ w.cell? ⟨g, 5, none⟩ = some x5 := by
  refine ⟨?_, ?_, ?_, ?_, ?_, ?_⟩
  · rw [cell_of_row w g 0 _ _ (0, 0) h]; rfl
  · rw [cell_of_row w g 1 _ _ (0, 0) h]; rfl
  · rw [cell_of_row w g 2 _ _ (0, 0) h]; rfl
  · rw [cell_of_row w g 3 _ _ (0, 0) h]; rfl
  · rw [cell_of_row w g 4 _ _ (0, 0) h]; rfl
  · rw [cell_of_row w g 5 _ _ (0, 0) h]; rfl
def set9 (w : World) (g : Nat) (x0 x1 x2 x3 x4 x5 x6 x7 x8 : Value) : World := ((((((((w.setCell ⟨g, 0, none⟩ x0).setCell ⟨g, 1, none⟩ x1).setCell ⟨g, 2, none⟩ x2).setCell ⟨g, 3, none⟩ x3).setCell ⟨g, 4, none⟩ x4).setCell ⟨g, 5, none⟩ x5).setCell ⟨g, 6, none⟩ x6).setCell ⟨g, 7, none⟩ x7).setCell ⟨g, 8, none⟩ x8
theorem rp_set {y0 y1 y2 y3 y4 y5 y6 y7 y8 : Value} {g : Nat} {t : TypeId} (h : w.heap[g]? = some (.cells #[y0, y1, y2, y3, y4, y5, y6, y7, y8] t (0, 0))) (x0 x1 x2 x3 x4 x5 x6 x7 x8 : Value) :
    (set9 w g x0 x1 x2 x3 x4 x5 x6 x7 x8).heap[g]? = some (.cells #[x0, x1, x2, x3, x4, x5, x6, x7, x8] t (0, 0)) := by
  unfold set9
  have h1 := heap_setCell_same _ g 0 _ _ x0 h
  have h1 : (_ : Option Obj) = some (.cells #[x0, y1, y2, y3, y4, y5, y6, y7, y8] t (0, 0)) := h1
  have h2 := heap_setCell_same _ g 1 _ _ x1 h1
  have h2 : (_ : Option Obj) = some (.cells #[x0, x1, y2, y3, y4, y5, y6, y7, y8] t (0, 0)) := h2
  have h3 := heap_setCell_same _ g 2 _ _ x2 h2
  have h3 : (_ : Option Obj) = some (.cells #[x0, x1, x2, y3, y4, y5, y6, y7, y8] t (0, 0)) := h3
  have h4 := heap_setCell_same _ g 3 _ _ x3 h3
  have h4 : (_ : Option Obj) = some (.cells #[x0, x1, x2, x3, y4, y5, y6, y7, y8] t (0, 0)) := h4
  have h5 := heap_setCell_same _ g 4 _ _ x4 h4
  have h5 : (_ : Option Obj) = some (.cells #[x0, x1, x2, x3, x4, y5, y6, y7, y8] t (0, 0)) := h5
  have h6 := heap_setCell_same _ g 5 _ _ x5 h5
  have h6 : (_ : Option Obj) = some (.cells #[x0, x1, x2, x3, x4, x5, y6, y7, y8] t (0, 0)) := h6
  have h7 := heap_setCell_same _ g 6 _ _ x6 h6
  have h7 : (_ : Option Obj) = some (.cells #[x0, x1, x2, x3, x4, x5, x6, y7, y8] t (0, 0)) := h7
  have h8 := heap_setCell_same _ g 7 _ _ x7 h7
  have h8 : (_ : Option Obj) = some (.cells #[x0, x1, x2, x3, x4, x5, x6, x7, y8] t (0, 0)) := h8
  have h9 := heap_setCell_same _ g 8 _ _ x8 h8
  have h9 : (_ : Option Obj) = some (.cells #[x0, x1, x2, x3, x4, x5, x6, x7, x8] t (0, 0)) := h9
  exact h9
theorem set9_tch (w : World) (g : Nat) (x0 x1 x2 x3 x4 x5 x6 x7 x8 : Value) : Tch (fun k => k = g) w (set9 w g x0 x1 x2 x3 x4 x5 x6 x7 x8) := by
  unfold set9
  have t : ∀ (W : World) (i : Nat) (x : Value), Tch (fun k => k = g) w W → Tch (fun k => k = g) w (W.setCell ⟨g, i, none⟩ x) := fun W i x h => h.trans (Tch.set (S := fun k => k = g) W ⟨g, i, none⟩ x rfl) (fun _ _ h => h)
  exact t _ _ _ (t _ _ _ (t _ _ _ (t _ _ _ (t _ _ _ (t _ _ _ (t _ _ _ (t _ _ _ (t _ _ _ (Tch.refl _ _)))))))))
set_option maxRecDepth 100000 in
theorem rep_ret {fn : Func} {R : Ending → World → Prop} {a : Act} {w : World} {p : Tmp} {g : Nat} {x0 x1 x2 x3 x4 x5 x6 x7 x8 : Value} (hres : fn.results = #[.cell p 45]) (hp : a.tmps.getD p undef = .pointer (some ⟨g, 0, none⟩)) (hd : a.defers = [])
    (hg : w.heap[g]? = some (.cells #[x0, x1, x2, x3, x4, x5, x6, x7, x8] 45 (0, 0))) (hR : R (.returned (.agg #[x0, x1, x2, x3, x4, x5, x6, x7, x8])) w) : bodyPost Tryz.prog fn R .ret a w := by
  refine bodyPost_ret (v := .agg #[x0, x1, x2, x3, x4, x5, x6, x7, x8]) ?_ hd hR
  exact results_cell_row hres _ _ g _ _ _ _ hp hg rfl rfl rfl
theorem ar_ne_rep (h : Ar w 80 g base cap A c bs) {k : Nat} {cs : Array Value} (hk : w.heap[k]? = some (.cells cs 45 (0, 0))) : ¬ foot g A k := by
  rintro (rfl | ⟨a, ea, rfl⟩)
  · have h1 := h.obj
    rw [hk] at h1
    injection h1 with h1
    injection h1 with _ h2 _
    exact absurd h2 (by decide)
  · obtain ⟨h', e, cur, hg, _⟩ := h.row ea
    subst e
    rw [hk] at hg
    injection hg with hg
    injection hg with _ h2 _
    exact absurd h2 (by decide)
theorem PTurn.near {S : Nat → Prop} (h : PTurn g base cap A H' w w4) (ht : Tch S w4 w5) (hS : ∀ k, S k → w.heap.size ≤ k ∧ ∃ cs, w4.heap[k]? = some (.cells cs 45 (0, 0))) : PTurn g base cap A H' w w5 := by
  obtain ⟨out, ⟨A4, c4, a4, t4, m4⟩, rd⟩ := h
  refine ⟨out, ⟨A4, c4, a4.tch ht (fun k hk hs => ?_), t4.trans ht (fun i hi hs => ?_), m4⟩, rd⟩
  · obtain ⟨_, cs, hcs⟩ := hS k hs
    exact ar_ne_rep a4 hcs hk
  · have := (hS i hs).1
    omega
theorem ownR_keep {w w' : World} {base n size : Nat} {t : TypeId} {v : Value} {xs : List Value} (h : w.ownsRow base t size v n xs) (hk : ∀ k, v.ownBlock = some k → w'.heap[k]? = w.heap[k]?) : w'.ownsRow base t size v n xs := by
  refine ⟨h.1, ?_⟩
  rcases h.2 with h2 | ⟨g, cap, cur, hv, hg, hh, r⟩
  · exact .inl h2
  · exact .inr ⟨g, cap, cur, hv, hg, (hk g (by rw [hv]; rfl)).trans hh, r⟩
theorem PTurn.after {w1 : World} (h : PTurn g base cap A H' w1 w4) (hb : Below w.heap.size w w1) : PTurn g base cap A H' w w4 := by
  obtain ⟨out, hbe, hr⟩ := h
  exact ⟨out, hbe.after hb, hr⟩
theorem PTurn.tch (h : PTurn g base cap A H' w w4) : Tch (foot g A) w w4 := by
  obtain ⟨_, ⟨_, _, _, t, _⟩, _⟩ := h
  exact t
theorem PTurn.ends {b4 b5 : Nat} (h : PTurn g base cap A H' w w4) (m4 : w4.heap[b4]? = some (.cells rp0 45 (0, 0))) (m5 : w4.heap[b5]? = some (.cells rp0 45 (0, 0))) (l4 : w.heap.size ≤ b4) (l5 : w.heap.size ≤ b5) (ht : Tch (fun k => k = b4 ∨ k = b5) w4 w5) : PTurn g base cap A H' w w5 :=
  h.near ht (by
    rintro k (rfl | rfl)
    · exact ⟨l4, _, m4⟩
    · exact ⟨l5, _, m5⟩)
theorem st_in {y0 y1 y2 y3 y4 y5 y6 y7 y8 : Value} {g : Nat} {t : TypeId} (h : w.heap[g]? = some (.cells #[y0, y1, y2, y3, y4, y5, y6, y7, y8] t (0, 0))) (x4 x5 x6 x7 x8 : Value) :
    (((((w.setCell ⟨g, 4, none⟩ x4).setCell ⟨g, 5, none⟩ x5).setCell ⟨g, 6, none⟩ x6).setCell ⟨g, 7, none⟩ x7).setCell ⟨g, 8, none⟩ x8).heap[g]? = some (.cells #[y0, y1, y2, y3, x4, x5, x6, x7, x8] t (0, 0)) := by
  have h1 := heap_setCell_same w g 4 _ _ x4 h
  have h2 := heap_setCell_same _ g 5 _ _ x5 h1
  have h3 := heap_setCell_same _ g 6 _ _ x6 h2
  have h4 := heap_setCell_same _ g 7 _ _ x7 h3
  have h5 := heap_setCell_same _ g 8 _ _ x8 h4
  rw [h5]
  rfl
theorem st_tch (w : World) (g : Nat) (x4 x5 x6 x7 x8 : Value) : Tch (fun k => k = g) w (((((w.setCell ⟨g, 4, none⟩ x4).setCell ⟨g, 5, none⟩ x5).setCell ⟨g, 6, none⟩ x6).setCell ⟨g, 7, none⟩ x7).setCell ⟨g, 8, none⟩ x8) := by
  have t : ∀ (W : World) (i : Nat) (x : Value), Tch (fun k => k = g) w W → Tch (fun k => k = g) w (W.setCell ⟨g, i, none⟩ x) := fun W i x h => h.trans (Tch.set (S := fun k => k = g) W ⟨g, i, none⟩ x rfl) (fun _ _ h => h)
  exact t _ _ _ (t _ _ _ (t _ _ _ (t _ _ _ (t _ _ _ (Tch.refl _ _)))))
/-- How all stands at the beginning of Do: the call's box, two replies. -/
structure Do3 (w w3 : World) (b3 b4 b5 : Nat) (cs : Array Value) : Prop where
  bel : Below w.heap.size w w3
  n3 : w3.heap[b3]? = some (.cells cs 38 (0, 0))
  n4 : w3.heap[b4]? = some (.cells rp0 45 (0, 0))
  n5 : w3.heap[b5]? = some (.cells rp0 45 (0, 0))
  l3 : w.heap.size ≤ b3
  l4 : w.heap.size ≤ b4
  l5 : w.heap.size ≤ b5
  ne : b4 ≠ b5
theorem Do3.made (w : World) (cs : Array Value) : Do3 w (((w.alloc (.cells cs 38)).alloc (.cells rp0 45)).alloc (.cells rp0 45)) w.heap.size (w.alloc (.cells cs 38)).heap.size ((w.alloc (.cells cs 38)).alloc (.cells rp0 45)).heap.size cs := by
  obtain ⟨w1, hw1⟩ : ∃ w1, w.alloc (.cells cs 38) = w1 := ⟨_, rfl⟩
  have b1 : Below w.heap.size w w1 := by rw [← hw1]; exact (Below.refl _ _).alloc (Nat.le_refl _) _
  have n1 : w1.heap[w.heap.size]? = some (.cells cs 38 (0, 0)) := by rw [← hw1]; exact heap_alloc_new w _
  rw [hw1]
  obtain ⟨w2, hw2⟩ : ∃ w2, w1.alloc (.cells rp0 45) = w2 := ⟨_, rfl⟩
  have b2 : Below w1.heap.size w1 w2 := by rw [← hw2]; exact (Below.refl _ _).alloc (Nat.le_refl _) _
  have n2 : w2.heap[w1.heap.size]? = some (.cells rp0 45 (0, 0)) := by rw [← hw2]; exact heap_alloc_new w1 _
  rw [hw2]
  have n12 := (b2.block _ (heap_lt n1)).trans n1
  obtain ⟨w3, hw3⟩ : ∃ w3, w2.alloc (.cells rp0 45) = w3 := ⟨_, rfl⟩
  have b3 : Below w2.heap.size w2 w3 := by rw [← hw3]; exact (Below.refl _ _).alloc (Nat.le_refl _) _
  have n3 : w3.heap[w2.heap.size]? = some (.cells rp0 45 (0, 0)) := by rw [← hw3]; exact heap_alloc_new w2 _
  rw [hw3]
  have l12 := heap_lt n2
  exact ⟨b1.trans ((b2.mono b1.size).trans (b3.mono (Nat.le_trans b1.size b2.size))), (b3.block _ (heap_lt n12)).trans n12, (b3.block _ l12).trans n2, n3, Nat.le_refl _, b1.size, Nat.le_trans b1.size b2.size, by omega⟩
theorem doC_0 (p n m a : Nat) (b : List UInt8) : H.doC 0 p n m a b = (Rp.err 1, H) := by
  unfold Hp.doC
  rw [if_neg (by decide), if_neg (by decide), if_neg (by decide), if_neg (by decide), if_neg (by decide), if_neg (by decide)]
theorem doC_1 (p n m a : Nat) (b : List UInt8) : H.doC 1 p n m a b = gotR (H.get n 165) := by unfold Hp.doC; rw [if_pos rfl]
theorem doC_2 (p n m a : Nat) (b : List UInt8) : H.doC 2 p n m a b = gotR (H.calloc n m) := by unfold Hp.doC; rw [if_neg (by decide), if_pos rfl]
theorem doC_3 (p n m a : Nat) (b : List UInt8) : H.doC 3 p n m a b = (Rp.err (H.freeP p).1, (H.freeP p).2) := by
  unfold Hp.doC Hp.freeP
  rw [if_neg (by decide), if_neg (by decide), if_pos rfl]
  cases H.handleB p <;> rfl
theorem doC_4 (p n m a : Nat) (b : List UInt8) : H.doC 4 p n m a b = gotR (H.realloc p n) := by unfold Hp.doC; rw [if_neg (by decide), if_neg (by decide), if_neg (by decide), if_pos rfl]
theorem doC_5 (p n m a : Nat) (b : List UInt8) : H.doC 5 p n m a b = (⟨(H.usableP p).2, 0, (H.usableP p).1, [], St5.none⟩, H) := by
  unfold Hp.doC Hp.heldC Hp.usableP
  rw [if_neg (by decide), if_neg (by decide), if_neg (by decide), if_neg (by decide), if_pos (.inl rfl)]
  cases H.handleB p with
  | none => rfl
  | some i => dsimp only; rw [if_pos rfl]
theorem doC_6 (p n m a : Nat) (b : List UInt8) : H.doC 6 p n m a b = (⟨(H.readP p a n).2, 0, 0, (H.readP p a n).1, St5.none⟩, H) := by
  unfold Hp.doC Hp.heldC Hp.readP
  rw [if_neg (by decide), if_neg (by decide), if_neg (by decide), if_neg (by decide), if_pos (.inr (.inl rfl))]
  cases H.handleB p with
  | none => rfl
  | some i =>
    dsimp only
    rw [if_neg (by decide), if_neg (show ¬ (6 : Int) = 7 by decide)]
    by_cases h : (H.ds.getD i nilD).2.length < a + n
    · rw [if_pos h, if_pos h]; rfl
    · rw [if_neg h, if_neg h, if_pos rfl]
theorem doC_7 (p n m a : Nat) (b : List UInt8) : H.doC 7 p n m a b = (Rp.err (H.writeP p a b).1, (H.writeP p a b).2) := by
  unfold Hp.doC Hp.heldC Hp.writeP
  rw [if_neg (by decide), if_neg (by decide), if_neg (by decide), if_neg (by decide), if_pos (.inr (.inr rfl))]
  cases H.handleB p with
  | none => rfl
  | some i =>
    dsimp only
    rw [if_neg (by decide), if_pos (show (7 : Int) = 7 from rfl)]
    by_cases h : (H.ds.getD i nilD).2.length < a + b.length
    · rw [if_pos h, if_pos h]
    · rw [if_neg h, if_neg h, if_neg (by decide)]
theorem doC_8 (p n m a : Nat) (b : List UInt8) : H.doC 8 p n m a b = (⟨0, 0, 0, [], H.stats⟩, H) := by
  unfold Hp.doC
  rw [if_neg (by decide), if_neg (by decide), if_neg (by decide), if_neg (by decide), if_neg (by decide), if_pos rfl]
end

set_option maxRecDepth 100000 in
set_option maxHeartbeats 4000000 in
theorem hdo_0 {w : World} {q g base cap c : Nat} {A : Option Addr} {bs : List UInt8} {H : Hp} (h : PH w q g base cap A c bs H) (hE : ET w) (h0 : ¬ foot g A 0) (p n m a bl k : Nat) (B : Option Addr) (b : List UInt8) :
    Calls Tryz.prog 12 #[.pointer (some ⟨q, 0, none⟩), callV 0 p n m a B bl k] w fun e w' => DoTold (H.doC 0 p n m a b).1 w e w' ∧ PTurn g base cap A (H.doC 0 p n m a b).2 w w' := by
  rw [doC_0]
  unfold callV
  have hd := Do3.made w #[.int .i64 0, .int .u64 (p : Int), .int .u64 (n : Int), .int .u64 (m : Int), .int .u64 (a : Int), .slice B bl k]
  obtain ⟨w1, hw1⟩ : ∃ w1, w.alloc (.cells #[.int .i64 0, .int .u64 (p : Int), .int .u64 (n : Int), .int .u64 (m : Int), .int .u64 (a : Int), .slice B bl k] 38) = w1 := ⟨_, rfl⟩
  rw [hw1] at hd
  obtain ⟨w2, hw2⟩ : ∃ w2, w1.alloc (.cells rp0 45) = w2 := ⟨_, rfl⟩
  rw [hw2] at hd
  obtain ⟨w3, hw3⟩ : ∃ w3, w2.alloc (.cells rp0 45) = w3 := ⟨_, rfl⟩
  rw [hw3] at hd
  unfold rp0 at hw2 hw3
  obtain ⟨z0, z1, z2, z3, z4, z5⟩ := cl_cells hd.n3
  have hz := heap_lt' hd.n3
  have h3 := h.below hd.bel
  have hk : ∀ k, w.heap.size ≤ k → ¬ foot g A k := fun k hk hf => by have := h.ar.foot_lt hf; omega
  have HD := Lib.hid hd
  have HH := Lib.hid h
  have HK := Lib.hid hk
  have HW1 := Lib.hid hw1
  have HW2 := Lib.hid hw2
  have HW3 := Lib.hid hw3
  have HE := Lib.hid hE
  have H00 := Lib.hid h0
  clear h hd h3 hE hk hw1 hw2 hw3 h0
  go_enter Tryz.func12, Tryz.ntmps12
  have T4 : PTurn g base cap A H w w3 := HH.out.stay HD.out.bel
  have E4 : ET w3 := HE.out.keep (T4.tch.block 0 HE.out.lt H00.out)
  have t34 : Tch (foot g A) w3 w3 := Tch.refl _ _
  have m4 := (t34.block _ (heap_lt HD.out.n4) (HK.out _ HD.out.l4)).trans HD.out.n4
  have m5 := (t34.block _ (heap_lt HD.out.n5) (HK.out _ HD.out.l5)).trans HD.out.n5
  obtain ⟨⟨y0, y1, y2, y3, y4, y5, y6, y7, y8⟩, f0, f1, f2, f3, f4, f5, f6, f7, f8⟩ := rp_cells m5
  have hy := heap_lt' m5
  have n5 : w3.heap[w2.heap.size]? = some (.cells #[.int .i64 0, .int .u64 0, .int .u64 0, .slice none 0 0, .int .i64 0, .int .i64 0, .int .i64 0, .int .i64 0, .int .i64 0] 45 (0, 0)) := m5
  have t5 : Tch (fun k => k = w2.heap.size) w3 w3 := Tch.refl _ _
  have E5 : ET w3 := E4.keep (t5.block 0 E4.lt (fun e => by
    have e : 0 = w2.heap.size := e
    have h1 := HD.out.l5
    have h2 := HE.out.lt
    omega))
  have m5' : w3.heap[w1.heap.size]? = some (.cells rp0 45 (0, 0)) := (t5.block _ (heap_lt m4) HD.out.ne).trans m4
  have HNM := Lib.hid (hnumber_err E5 1)
  have HT5 := Lib.hid t5
  have HN5 := Lib.hid n5
  have HM5 := Lib.hid m5'
  have HM4 := Lib.hid m4
  have HM45 := Lib.hid m5
  have HT4 := Lib.hid T4
  clear E4 E5 m4 m5 m5' n5 t5 T4
  go_wp2_with (first | (rw [HW1.out]) | (rw [HW2.out]) | (rw [HW3.out]) | fail)
  refine HNM.out.mono ?_
  rintro e w6 ⟨rfl, hb6⟩
  have n6 := (hb6.block _ (heap_lt HN5.out)).trans HN5.out
  have m6 := (hb6.block _ (heap_lt HM5.out)).trans HM5.out
  obtain ⟨w7, hw7⟩ : ∃ w7, w6.setCell ⟨w2.heap.size, 0, none⟩ (.int .i64 1) = w7 := ⟨_, rfl⟩
  have n7 : w7.heap[w2.heap.size]? = some (.cells #[.int .i64 1, .int .u64 0, .int .u64 0, .slice none 0 0, .int .i64 0, .int .i64 0, .int .i64 0, .int .i64 0, .int .i64 0] 45 (0, 0)) := by rw [← hw7]; exact heap_setCell_same w6 w2.heap.size 0 _ _ _ n6
  have m7 : w7.heap[w1.heap.size]? = some (.cells rp0 45 (0, 0)) := by rw [← hw7]; exact (Below.heap_setCell w6 ⟨w2.heap.size, 0, none⟩ _ w1.heap.size HD.out.ne).trans m6
  have t7 : Tch (fun k => k = w2.heap.size) w6 w7 := by rw [← hw7]; exact Tch.set (S := fun k => k = w2.heap.size) w6 ⟨w2.heap.size, 0, none⟩ _ rfl
  have tf : Tch (fun k => k = w1.heap.size ∨ k = w2.heap.size) w3 (set9 w7 w1.heap.size (.int .i64 1) (.int .u64 0) (.int .u64 0) (.slice none 0 0) (.int .i64 0) (.int .i64 0) (.int .i64 0) (.int .i64 0) (.int .i64 0)) :=
    (((((Tch.refl (fun k => k = w1.heap.size ∨ k = w2.heap.size) w3).trans HT5.out (fun _ _ e => .inr e)).trans (Tch.of_below (S := fun _ => False) hb6) (fun _ _ h => h.elim)).trans t7 (fun _ _ e => .inr e)).trans (set9_tch w7 w1.heap.size (.int .i64 1) (.int .u64 0) (.int .u64 0) (.slice none 0 0) (.int .i64 0) (.int .i64 0) (.int .i64 0) (.int .i64 0) (.int .i64 0)) (fun _ _ e => .inl e))
  have TF := Lib.hid tf
  have MF := Lib.hid (rp_set m7 (.int .i64 1) (.int .u64 0) (.int .u64 0) (.slice none 0 0) (.int .i64 0) (.int .i64 0) (.int .i64 0) (.int .i64 0) (.int .i64 0))
  clear y0 y1 y2 y3 y4 y5 y6 y7 y8 f0 f1 f2 f3 f4 f5 f6 f7 f8 hy
  obtain ⟨⟨y0, y1, y2, y3, y4, y5, y6, y7, y8⟩, f0, f1, f2, f3, f4, f5, f6, f7, f8⟩ := rp_cells n6
  have hy6 := heap_lt' n6
  have HW7 := Lib.hid hw7
  obtain ⟨⟨u0, u1, u2, u3, u4, u5, u6, u7, u8⟩, _⟩ := rp_cells n7
  have hy7 := heap_lt' n7
  obtain ⟨⟨v0, v1, v2, v3, v4, v5, v6, v7, v8⟩, e0, e1, e2, e3, e4, e5, e6, e7, e8⟩ := rp_cells m7
  have hm7 := heap_lt' m7
  clear hb6 n6 m6 hw7 n7 m7 t7 tf HNM HT5 HN5 HM5
  go_wp2_with (first | (rw [HW7.out]) | fail)
  (try simp only [Exit.inBlock, Exit.then])
  refine rep_ret (g := w1.heap.size) Tryz.results12 ?_ ?_ MF.out ?_
  · rfl
  · rfl
  · exact ⟨⟨none, 0, rfl, World.ownsRow_nil _ _ _ _⟩, HT4.out.ends HM4.out HM45.out HD.out.l4 HD.out.l5 TF.out⟩
set_option maxRecDepth 100000 in
set_option maxHeartbeats 4000000 in
theorem hdo_1 {w : World} {q g base cap c : Nat} {A : Option Addr} {bs : List UInt8} {H : Hp} (h : PH w q g base cap A c bs H) (hE : ET w) (h0 : ¬ foot g A 0) (p n m a bl k : Nat) (B : Option Addr) (b : List UInt8) (hn : n < 18446744073709551616) :
    Calls Tryz.prog 12 #[.pointer (some ⟨q, 0, none⟩), callV 1 p n m a B bl k] w fun e w' => DoTold (H.doC 1 p n m a b).1 w e w' ∧ PTurn g base cap A (H.doC 1 p n m a b).2 w w' := by
  rw [doC_1]
  unfold callV
  have hd := Do3.made w #[.int .i64 1, .int .u64 (p : Int), .int .u64 (n : Int), .int .u64 (m : Int), .int .u64 (a : Int), .slice B bl k]
  obtain ⟨w1, hw1⟩ : ∃ w1, w.alloc (.cells #[.int .i64 1, .int .u64 (p : Int), .int .u64 (n : Int), .int .u64 (m : Int), .int .u64 (a : Int), .slice B bl k] 38) = w1 := ⟨_, rfl⟩
  rw [hw1] at hd
  obtain ⟨w2, hw2⟩ : ∃ w2, w1.alloc (.cells rp0 45) = w2 := ⟨_, rfl⟩
  rw [hw2] at hd
  obtain ⟨w3, hw3⟩ : ∃ w3, w2.alloc (.cells rp0 45) = w3 := ⟨_, rfl⟩
  rw [hw3] at hd
  unfold rp0 at hw2 hw3
  obtain ⟨z0, z1, z2, z3, z4, z5⟩ := cl_cells hd.n3
  have hz := heap_lt' hd.n3
  have h3 := h.below hd.bel
  have hk : ∀ k, w.heap.size ≤ k → ¬ foot g A k := fun k hk hf => by have := h.ar.foot_lt hf; omega
  have hO := hmalloc_any h3 n hn
  obtain ⟨r, hr⟩ : ∃ r, H.get n 165 = r := ⟨_, rfl⟩
  rw [hr] at hO ⊢
  obtain ⟨⟨rh, rk⟩, H'⟩ := r
  dsimp only [PGets] at hO
  dsimp only [gotR]
  have HO := Lib.hid hO
  have HD := Lib.hid hd
  have HH := Lib.hid h
  have HK := Lib.hid hk
  have HW1 := Lib.hid hw1
  have HW2 := Lib.hid hw2
  have HW3 := Lib.hid hw3
  have HE := Lib.hid hE
  have H00 := Lib.hid h0
  clear h hd h3 hE hk hw1 hw2 hw3 h0 hO hr
  go_enter Tryz.func12, Tryz.ntmps12
  go_wp2_with (first | (rw [HW1.out]) | (rw [HW2.out]) | (rw [HW3.out]) | fail)
  refine HO.out.mono ?_
  rintro e w4 ⟨rfl, ht⟩
  have T4 : PTurn g base cap A H' w w4 := ht.after HD.out.bel
  have E4 : ET w4 := HE.out.keep (T4.tch.block 0 HE.out.lt H00.out)
  have t34 : Tch (foot g A) w3 w4 := ht.tch
  have m4 := (t34.block _ (heap_lt HD.out.n4) (HK.out _ HD.out.l4)).trans HD.out.n4
  have m5 := (t34.block _ (heap_lt HD.out.n5) (HK.out _ HD.out.l5)).trans HD.out.n5
  obtain ⟨⟨y0, y1, y2, y3, y4, y5, y6, y7, y8⟩, f0, f1, f2, f3, f4, f5, f6, f7, f8⟩ := rp_cells m5
  have hy := heap_lt' m5
  clear z0 z1 z2 z3 z4 z5 hz HO t34
  obtain ⟨w5, hw5⟩ : ∃ w5, w4.setCell ⟨w2.heap.size, 1, none⟩ (.int .u64 (rh : Int)) = w5 := ⟨_, rfl⟩
  have n5 : w5.heap[w2.heap.size]? = some (.cells #[.int .i64 0, .int .u64 (rh : Int), .int .u64 0, .slice none 0 0, .int .i64 0, .int .i64 0, .int .i64 0, .int .i64 0, .int .i64 0] 45 (0, 0)) := by rw [← hw5]; exact heap_setCell_same w4 w2.heap.size 1 _ _ _ m5
  have t5 : Tch (fun k => k = w2.heap.size) w4 w5 := by rw [← hw5]; exact Tch.set (S := fun k => k = w2.heap.size) w4 ⟨w2.heap.size, 1, none⟩ _ rfl
  have HW5 := Lib.hid hw5
  clear hw5
  have E5 : ET w5 := E4.keep (t5.block 0 E4.lt (fun e => by
    have e : 0 = w2.heap.size := e
    have h1 := HD.out.l5
    have h2 := HE.out.lt
    omega))
  have m5' : w5.heap[w1.heap.size]? = some (.cells rp0 45 (0, 0)) := (t5.block _ (heap_lt m4) HD.out.ne).trans m4
  have HNM := Lib.hid (hnumber_any E5 rk)
  have HT5 := Lib.hid t5
  have HN5 := Lib.hid n5
  have HM5 := Lib.hid m5'
  have HM4 := Lib.hid m4
  have HM45 := Lib.hid m5
  have HT4 := Lib.hid T4
  clear E4 E5 m4 m5 m5' n5 t5 T4
  go_wp2_with (first | (rw [HW5.out]) | fail)
  refine HNM.out.mono ?_
  rintro e w6 ⟨rfl, hb6⟩
  have n6 := (hb6.block _ (heap_lt HN5.out)).trans HN5.out
  have m6 := (hb6.block _ (heap_lt HM5.out)).trans HM5.out
  obtain ⟨w7, hw7⟩ : ∃ w7, w6.setCell ⟨w2.heap.size, 0, none⟩ (.int .i64 rk) = w7 := ⟨_, rfl⟩
  have n7 : w7.heap[w2.heap.size]? = some (.cells #[.int .i64 rk, .int .u64 (rh : Int), .int .u64 0, .slice none 0 0, .int .i64 0, .int .i64 0, .int .i64 0, .int .i64 0, .int .i64 0] 45 (0, 0)) := by rw [← hw7]; exact heap_setCell_same w6 w2.heap.size 0 _ _ _ n6
  have m7 : w7.heap[w1.heap.size]? = some (.cells rp0 45 (0, 0)) := by rw [← hw7]; exact (Below.heap_setCell w6 ⟨w2.heap.size, 0, none⟩ _ w1.heap.size HD.out.ne).trans m6
  have t7 : Tch (fun k => k = w2.heap.size) w6 w7 := by rw [← hw7]; exact Tch.set (S := fun k => k = w2.heap.size) w6 ⟨w2.heap.size, 0, none⟩ _ rfl
  have tf : Tch (fun k => k = w1.heap.size ∨ k = w2.heap.size) w4 (set9 w7 w1.heap.size (.int .i64 rk) (.int .u64 (rh : Int)) (.int .u64 0) (.slice none 0 0) (.int .i64 0) (.int .i64 0) (.int .i64 0) (.int .i64 0) (.int .i64 0)) :=
    (((((Tch.refl (fun k => k = w1.heap.size ∨ k = w2.heap.size) w4).trans HT5.out (fun _ _ e => .inr e)).trans (Tch.of_below (S := fun _ => False) hb6) (fun _ _ h => h.elim)).trans t7 (fun _ _ e => .inr e)).trans (set9_tch w7 w1.heap.size (.int .i64 rk) (.int .u64 (rh : Int)) (.int .u64 0) (.slice none 0 0) (.int .i64 0) (.int .i64 0) (.int .i64 0) (.int .i64 0) (.int .i64 0)) (fun _ _ e => .inl e))
  have TF := Lib.hid tf
  have MF := Lib.hid (rp_set m7 (.int .i64 rk) (.int .u64 (rh : Int)) (.int .u64 0) (.slice none 0 0) (.int .i64 0) (.int .i64 0) (.int .i64 0) (.int .i64 0) (.int .i64 0))
  clear y0 y1 y2 y3 y4 y5 y6 y7 y8 f0 f1 f2 f3 f4 f5 f6 f7 f8 hy
  obtain ⟨⟨y0, y1, y2, y3, y4, y5, y6, y7, y8⟩, f0, f1, f2, f3, f4, f5, f6, f7, f8⟩ := rp_cells n6
  have hy6 := heap_lt' n6
  have HW7 := Lib.hid hw7
  obtain ⟨⟨u0, u1, u2, u3, u4, u5, u6, u7, u8⟩, _⟩ := rp_cells n7
  have hy7 := heap_lt' n7
  obtain ⟨⟨v0, v1, v2, v3, v4, v5, v6, v7, v8⟩, e0, e1, e2, e3, e4, e5, e6, e7, e8⟩ := rp_cells m7
  have hm7 := heap_lt' m7
  clear hb6 n6 m6 hw7 n7 m7 t7 tf HNM HT5 HN5 HM5
  go_wp2_with (first | (rw [HW7.out]) | fail)
  (try simp only [Exit.inBlock, Exit.then])
  refine rep_ret (g := w1.heap.size) Tryz.results12 ?_ ?_ MF.out ?_
  · rfl
  · rfl
  · exact ⟨⟨none, 0, rfl, World.ownsRow_nil _ _ _ _⟩, HT4.out.ends HM4.out HM45.out HD.out.l4 HD.out.l5 TF.out⟩
set_option maxRecDepth 100000 in
set_option maxHeartbeats 4000000 in
theorem hdo_2 {w : World} {q g base cap c : Nat} {A : Option Addr} {bs : List UInt8} {H : Hp} (h : PH w q g base cap A c bs H) (hE : ET w) (h0 : ¬ foot g A 0) (p n m a bl k : Nat) (B : Option Addr) (b : List UInt8) (hn : n < 18446744073709551616) (hm : m < 18446744073709551616) :
    Calls Tryz.prog 12 #[.pointer (some ⟨q, 0, none⟩), callV 2 p n m a B bl k] w fun e w' => DoTold (H.doC 2 p n m a b).1 w e w' ∧ PTurn g base cap A (H.doC 2 p n m a b).2 w w' := by
  rw [doC_2]
  unfold callV
  have hd := Do3.made w #[.int .i64 2, .int .u64 (p : Int), .int .u64 (n : Int), .int .u64 (m : Int), .int .u64 (a : Int), .slice B bl k]
  obtain ⟨w1, hw1⟩ : ∃ w1, w.alloc (.cells #[.int .i64 2, .int .u64 (p : Int), .int .u64 (n : Int), .int .u64 (m : Int), .int .u64 (a : Int), .slice B bl k] 38) = w1 := ⟨_, rfl⟩
  rw [hw1] at hd
  obtain ⟨w2, hw2⟩ : ∃ w2, w1.alloc (.cells rp0 45) = w2 := ⟨_, rfl⟩
  rw [hw2] at hd
  obtain ⟨w3, hw3⟩ : ∃ w3, w2.alloc (.cells rp0 45) = w3 := ⟨_, rfl⟩
  rw [hw3] at hd
  unfold rp0 at hw2 hw3
  obtain ⟨z0, z1, z2, z3, z4, z5⟩ := cl_cells hd.n3
  have hz := heap_lt' hd.n3
  have h3 := h.below hd.bel
  have hk : ∀ k, w.heap.size ≤ k → ¬ foot g A k := fun k hk hf => by have := h.ar.foot_lt hf; omega
  have hO := hcalloc_prog h3 n m hn hm
  obtain ⟨r, hr⟩ : ∃ r, H.calloc n m = r := ⟨_, rfl⟩
  rw [hr] at hO ⊢
  obtain ⟨⟨rh, rk⟩, H'⟩ := r
  dsimp only [PGets] at hO
  dsimp only [gotR]
  have HO := Lib.hid hO
  have HD := Lib.hid hd
  have HH := Lib.hid h
  have HK := Lib.hid hk
  have HW1 := Lib.hid hw1
  have HW2 := Lib.hid hw2
  have HW3 := Lib.hid hw3
  have HE := Lib.hid hE
  have H00 := Lib.hid h0
  clear h hd h3 hE hk hw1 hw2 hw3 h0 hO hr
  go_enter Tryz.func12, Tryz.ntmps12
  go_wp2_with (first | (rw [HW1.out]) | (rw [HW2.out]) | (rw [HW3.out]) | fail)
  refine HO.out.mono ?_
  rintro e w4 ⟨rfl, ht⟩
  have T4 : PTurn g base cap A H' w w4 := ht.after HD.out.bel
  have E4 : ET w4 := HE.out.keep (T4.tch.block 0 HE.out.lt H00.out)
  have t34 : Tch (foot g A) w3 w4 := ht.tch
  have m4 := (t34.block _ (heap_lt HD.out.n4) (HK.out _ HD.out.l4)).trans HD.out.n4
  have m5 := (t34.block _ (heap_lt HD.out.n5) (HK.out _ HD.out.l5)).trans HD.out.n5
  obtain ⟨⟨y0, y1, y2, y3, y4, y5, y6, y7, y8⟩, f0, f1, f2, f3, f4, f5, f6, f7, f8⟩ := rp_cells m5
  have hy := heap_lt' m5
  clear z0 z1 z2 z3 z4 z5 hz HO t34
  obtain ⟨w5, hw5⟩ : ∃ w5, w4.setCell ⟨w2.heap.size, 1, none⟩ (.int .u64 (rh : Int)) = w5 := ⟨_, rfl⟩
  have n5 : w5.heap[w2.heap.size]? = some (.cells #[.int .i64 0, .int .u64 (rh : Int), .int .u64 0, .slice none 0 0, .int .i64 0, .int .i64 0, .int .i64 0, .int .i64 0, .int .i64 0] 45 (0, 0)) := by rw [← hw5]; exact heap_setCell_same w4 w2.heap.size 1 _ _ _ m5
  have t5 : Tch (fun k => k = w2.heap.size) w4 w5 := by rw [← hw5]; exact Tch.set (S := fun k => k = w2.heap.size) w4 ⟨w2.heap.size, 1, none⟩ _ rfl
  have HW5 := Lib.hid hw5
  clear hw5
  have E5 : ET w5 := E4.keep (t5.block 0 E4.lt (fun e => by
    have e : 0 = w2.heap.size := e
    have h1 := HD.out.l5
    have h2 := HE.out.lt
    omega))
  have m5' : w5.heap[w1.heap.size]? = some (.cells rp0 45 (0, 0)) := (t5.block _ (heap_lt m4) HD.out.ne).trans m4
  have HNM := Lib.hid (hnumber_any E5 rk)
  have HT5 := Lib.hid t5
  have HN5 := Lib.hid n5
  have HM5 := Lib.hid m5'
  have HM4 := Lib.hid m4
  have HM45 := Lib.hid m5
  have HT4 := Lib.hid T4
  clear E4 E5 m4 m5 m5' n5 t5 T4
  go_wp2_with (first | (rw [HW5.out]) | fail)
  refine HNM.out.mono ?_
  rintro e w6 ⟨rfl, hb6⟩
  have n6 := (hb6.block _ (heap_lt HN5.out)).trans HN5.out
  have m6 := (hb6.block _ (heap_lt HM5.out)).trans HM5.out
  obtain ⟨w7, hw7⟩ : ∃ w7, w6.setCell ⟨w2.heap.size, 0, none⟩ (.int .i64 rk) = w7 := ⟨_, rfl⟩
  have n7 : w7.heap[w2.heap.size]? = some (.cells #[.int .i64 rk, .int .u64 (rh : Int), .int .u64 0, .slice none 0 0, .int .i64 0, .int .i64 0, .int .i64 0, .int .i64 0, .int .i64 0] 45 (0, 0)) := by rw [← hw7]; exact heap_setCell_same w6 w2.heap.size 0 _ _ _ n6
  have m7 : w7.heap[w1.heap.size]? = some (.cells rp0 45 (0, 0)) := by rw [← hw7]; exact (Below.heap_setCell w6 ⟨w2.heap.size, 0, none⟩ _ w1.heap.size HD.out.ne).trans m6
  have t7 : Tch (fun k => k = w2.heap.size) w6 w7 := by rw [← hw7]; exact Tch.set (S := fun k => k = w2.heap.size) w6 ⟨w2.heap.size, 0, none⟩ _ rfl
  have tf : Tch (fun k => k = w1.heap.size ∨ k = w2.heap.size) w4 (set9 w7 w1.heap.size (.int .i64 rk) (.int .u64 (rh : Int)) (.int .u64 0) (.slice none 0 0) (.int .i64 0) (.int .i64 0) (.int .i64 0) (.int .i64 0) (.int .i64 0)) :=
    (((((Tch.refl (fun k => k = w1.heap.size ∨ k = w2.heap.size) w4).trans HT5.out (fun _ _ e => .inr e)).trans (Tch.of_below (S := fun _ => False) hb6) (fun _ _ h => h.elim)).trans t7 (fun _ _ e => .inr e)).trans (set9_tch w7 w1.heap.size (.int .i64 rk) (.int .u64 (rh : Int)) (.int .u64 0) (.slice none 0 0) (.int .i64 0) (.int .i64 0) (.int .i64 0) (.int .i64 0) (.int .i64 0)) (fun _ _ e => .inl e))
  have TF := Lib.hid tf
  have MF := Lib.hid (rp_set m7 (.int .i64 rk) (.int .u64 (rh : Int)) (.int .u64 0) (.slice none 0 0) (.int .i64 0) (.int .i64 0) (.int .i64 0) (.int .i64 0) (.int .i64 0))
  clear y0 y1 y2 y3 y4 y5 y6 y7 y8 f0 f1 f2 f3 f4 f5 f6 f7 f8 hy
  obtain ⟨⟨y0, y1, y2, y3, y4, y5, y6, y7, y8⟩, f0, f1, f2, f3, f4, f5, f6, f7, f8⟩ := rp_cells n6
  have hy6 := heap_lt' n6
  have HW7 := Lib.hid hw7
  obtain ⟨⟨u0, u1, u2, u3, u4, u5, u6, u7, u8⟩, _⟩ := rp_cells n7
  have hy7 := heap_lt' n7
  obtain ⟨⟨v0, v1, v2, v3, v4, v5, v6, v7, v8⟩, e0, e1, e2, e3, e4, e5, e6, e7, e8⟩ := rp_cells m7
  have hm7 := heap_lt' m7
  clear hb6 n6 m6 hw7 n7 m7 t7 tf HNM HT5 HN5 HM5
  go_wp2_with (first | (rw [HW7.out]) | fail)
  (try simp only [Exit.inBlock, Exit.then])
  refine rep_ret (g := w1.heap.size) Tryz.results12 ?_ ?_ MF.out ?_
  · rfl
  · rfl
  · exact ⟨⟨none, 0, rfl, World.ownsRow_nil _ _ _ _⟩, HT4.out.ends HM4.out HM45.out HD.out.l4 HD.out.l5 TF.out⟩
set_option maxRecDepth 100000 in
set_option maxHeartbeats 4000000 in
theorem hdo_3 {w : World} {q g base cap c : Nat} {A : Option Addr} {bs : List UInt8} {H : Hp} (h : PH w q g base cap A c bs H) (hE : ET w) (h0 : ¬ foot g A 0) (p n m a bl k : Nat) (B : Option Addr) (b : List UInt8) (hp : p < 18446744073709551616) :
    Calls Tryz.prog 12 #[.pointer (some ⟨q, 0, none⟩), callV 3 p n m a B bl k] w fun e w' => DoTold (H.doC 3 p n m a b).1 w e w' ∧ PTurn g base cap A (H.doC 3 p n m a b).2 w w' := by
  rw [doC_3]
  unfold callV
  have hd := Do3.made w #[.int .i64 3, .int .u64 (p : Int), .int .u64 (n : Int), .int .u64 (m : Int), .int .u64 (a : Int), .slice B bl k]
  obtain ⟨w1, hw1⟩ : ∃ w1, w.alloc (.cells #[.int .i64 3, .int .u64 (p : Int), .int .u64 (n : Int), .int .u64 (m : Int), .int .u64 (a : Int), .slice B bl k] 38) = w1 := ⟨_, rfl⟩
  rw [hw1] at hd
  obtain ⟨w2, hw2⟩ : ∃ w2, w1.alloc (.cells rp0 45) = w2 := ⟨_, rfl⟩
  rw [hw2] at hd
  obtain ⟨w3, hw3⟩ : ∃ w3, w2.alloc (.cells rp0 45) = w3 := ⟨_, rfl⟩
  rw [hw3] at hd
  unfold rp0 at hw2 hw3
  obtain ⟨z0, z1, z2, z3, z4, z5⟩ := cl_cells hd.n3
  have hz := heap_lt' hd.n3
  have h3 := h.below hd.bel
  have hk : ∀ k, w.heap.size ≤ k → ¬ foot g A k := fun k hk hf => by have := h.ar.foot_lt hf; omega
  have hO := hfree_any h3 p hp
  obtain ⟨r, hr⟩ : ∃ r, H.freeP p = r := ⟨_, rfl⟩
  rw [hr] at hO ⊢
  obtain ⟨rk, H'⟩ := r
  dsimp only at hO
  dsimp only [Rp.err]
  have HO := Lib.hid hO
  have HD := Lib.hid hd
  have HH := Lib.hid h
  have HK := Lib.hid hk
  have HW1 := Lib.hid hw1
  have HW2 := Lib.hid hw2
  have HW3 := Lib.hid hw3
  have HE := Lib.hid hE
  have H00 := Lib.hid h0
  clear h hd h3 hE hk hw1 hw2 hw3 h0 hO hr
  go_enter Tryz.func12, Tryz.ntmps12
  go_wp2_with (first | (rw [HW1.out]) | (rw [HW2.out]) | (rw [HW3.out]) | fail)
  refine HO.out.mono ?_
  rintro e w4 ⟨rfl, ht⟩
  have T4 : PTurn g base cap A H' w w4 := ht.after HD.out.bel
  have E4 : ET w4 := HE.out.keep (T4.tch.block 0 HE.out.lt H00.out)
  have t34 : Tch (foot g A) w3 w4 := ht.tch
  have m4 := (t34.block _ (heap_lt HD.out.n4) (HK.out _ HD.out.l4)).trans HD.out.n4
  have m5 := (t34.block _ (heap_lt HD.out.n5) (HK.out _ HD.out.l5)).trans HD.out.n5
  obtain ⟨⟨y0, y1, y2, y3, y4, y5, y6, y7, y8⟩, f0, f1, f2, f3, f4, f5, f6, f7, f8⟩ := rp_cells m5
  have hy := heap_lt' m5
  clear z0 z1 z2 z3 z4 z5 hz HO t34
  have n5 : w4.heap[w2.heap.size]? = some (.cells #[.int .i64 0, .int .u64 0, .int .u64 0, .slice none 0 0, .int .i64 0, .int .i64 0, .int .i64 0, .int .i64 0, .int .i64 0] 45 (0, 0)) := m5
  have t5 : Tch (fun k => k = w2.heap.size) w4 w4 := Tch.refl _ _
  have E5 : ET w4 := E4.keep (t5.block 0 E4.lt (fun e => by
    have e : 0 = w2.heap.size := e
    have h1 := HD.out.l5
    have h2 := HE.out.lt
    omega))
  have m5' : w4.heap[w1.heap.size]? = some (.cells rp0 45 (0, 0)) := (t5.block _ (heap_lt m4) HD.out.ne).trans m4
  have HNM := Lib.hid (hnumber_any E5 rk)
  have HT5 := Lib.hid t5
  have HN5 := Lib.hid n5
  have HM5 := Lib.hid m5'
  have HM4 := Lib.hid m4
  have HM45 := Lib.hid m5
  have HT4 := Lib.hid T4
  clear E4 E5 m4 m5 m5' n5 t5 T4
  go_wp2_with fail
  refine HNM.out.mono ?_
  rintro e w6 ⟨rfl, hb6⟩
  have n6 := (hb6.block _ (heap_lt HN5.out)).trans HN5.out
  have m6 := (hb6.block _ (heap_lt HM5.out)).trans HM5.out
  obtain ⟨w7, hw7⟩ : ∃ w7, w6.setCell ⟨w2.heap.size, 0, none⟩ (.int .i64 rk) = w7 := ⟨_, rfl⟩
  have n7 : w7.heap[w2.heap.size]? = some (.cells #[.int .i64 rk, .int .u64 0, .int .u64 0, .slice none 0 0, .int .i64 0, .int .i64 0, .int .i64 0, .int .i64 0, .int .i64 0] 45 (0, 0)) := by rw [← hw7]; exact heap_setCell_same w6 w2.heap.size 0 _ _ _ n6
  have m7 : w7.heap[w1.heap.size]? = some (.cells rp0 45 (0, 0)) := by rw [← hw7]; exact (Below.heap_setCell w6 ⟨w2.heap.size, 0, none⟩ _ w1.heap.size HD.out.ne).trans m6
  have t7 : Tch (fun k => k = w2.heap.size) w6 w7 := by rw [← hw7]; exact Tch.set (S := fun k => k = w2.heap.size) w6 ⟨w2.heap.size, 0, none⟩ _ rfl
  have tf : Tch (fun k => k = w1.heap.size ∨ k = w2.heap.size) w4 (set9 w7 w1.heap.size (.int .i64 rk) (.int .u64 0) (.int .u64 0) (.slice none 0 0) (.int .i64 0) (.int .i64 0) (.int .i64 0) (.int .i64 0) (.int .i64 0)) :=
    (((((Tch.refl (fun k => k = w1.heap.size ∨ k = w2.heap.size) w4).trans HT5.out (fun _ _ e => .inr e)).trans (Tch.of_below (S := fun _ => False) hb6) (fun _ _ h => h.elim)).trans t7 (fun _ _ e => .inr e)).trans (set9_tch w7 w1.heap.size (.int .i64 rk) (.int .u64 0) (.int .u64 0) (.slice none 0 0) (.int .i64 0) (.int .i64 0) (.int .i64 0) (.int .i64 0) (.int .i64 0)) (fun _ _ e => .inl e))
  have TF := Lib.hid tf
  have MF := Lib.hid (rp_set m7 (.int .i64 rk) (.int .u64 0) (.int .u64 0) (.slice none 0 0) (.int .i64 0) (.int .i64 0) (.int .i64 0) (.int .i64 0) (.int .i64 0))
  clear y0 y1 y2 y3 y4 y5 y6 y7 y8 f0 f1 f2 f3 f4 f5 f6 f7 f8 hy
  obtain ⟨⟨y0, y1, y2, y3, y4, y5, y6, y7, y8⟩, f0, f1, f2, f3, f4, f5, f6, f7, f8⟩ := rp_cells n6
  have hy6 := heap_lt' n6
  have HW7 := Lib.hid hw7
  obtain ⟨⟨u0, u1, u2, u3, u4, u5, u6, u7, u8⟩, _⟩ := rp_cells n7
  have hy7 := heap_lt' n7
  obtain ⟨⟨v0, v1, v2, v3, v4, v5, v6, v7, v8⟩, e0, e1, e2, e3, e4, e5, e6, e7, e8⟩ := rp_cells m7
  have hm7 := heap_lt' m7
  clear hb6 n6 m6 hw7 n7 m7 t7 tf HNM HT5 HN5 HM5
  go_wp2_with (first | (rw [HW7.out]) | fail)
  (try simp only [Exit.inBlock, Exit.then])
  refine rep_ret (g := w1.heap.size) Tryz.results12 ?_ ?_ MF.out ?_
  · rfl
  · rfl
  · exact ⟨⟨none, 0, rfl, World.ownsRow_nil _ _ _ _⟩, HT4.out.ends HM4.out HM45.out HD.out.l4 HD.out.l5 TF.out⟩
set_option maxRecDepth 100000 in
set_option maxHeartbeats 4000000 in
theorem hdo_4 {w : World} {q g base cap c : Nat} {A : Option Addr} {bs : List UInt8} {H : Hp} (h : PH w q g base cap A c bs H) (hE : ET w) (h0 : ¬ foot g A 0) (p n m a bl k : Nat) (B : Option Addr) (b : List UInt8) (hp : p < 18446744073709551616) (hn : n < 18446744073709551616) :
    Calls Tryz.prog 12 #[.pointer (some ⟨q, 0, none⟩), callV 4 p n m a B bl k] w fun e w' => DoTold (H.doC 4 p n m a b).1 w e w' ∧ PTurn g base cap A (H.doC 4 p n m a b).2 w w' := by
  rw [doC_4]
  unfold callV
  have hd := Do3.made w #[.int .i64 4, .int .u64 (p : Int), .int .u64 (n : Int), .int .u64 (m : Int), .int .u64 (a : Int), .slice B bl k]
  obtain ⟨w1, hw1⟩ : ∃ w1, w.alloc (.cells #[.int .i64 4, .int .u64 (p : Int), .int .u64 (n : Int), .int .u64 (m : Int), .int .u64 (a : Int), .slice B bl k] 38) = w1 := ⟨_, rfl⟩
  rw [hw1] at hd
  obtain ⟨w2, hw2⟩ : ∃ w2, w1.alloc (.cells rp0 45) = w2 := ⟨_, rfl⟩
  rw [hw2] at hd
  obtain ⟨w3, hw3⟩ : ∃ w3, w2.alloc (.cells rp0 45) = w3 := ⟨_, rfl⟩
  rw [hw3] at hd
  unfold rp0 at hw2 hw3
  obtain ⟨z0, z1, z2, z3, z4, z5⟩ := cl_cells hd.n3
  have hz := heap_lt' hd.n3
  have h3 := h.below hd.bel
  have hk : ∀ k, w.heap.size ≤ k → ¬ foot g A k := fun k hk hf => by have := h.ar.foot_lt hf; omega
  have hO := hrealloc_prog h3 p n hp hn
  obtain ⟨r, hr⟩ : ∃ r, H.realloc p n = r := ⟨_, rfl⟩
  rw [hr] at hO ⊢
  obtain ⟨⟨rh, rk⟩, H'⟩ := r
  dsimp only [PGets] at hO
  dsimp only [gotR]
  have HO := Lib.hid hO
  have HD := Lib.hid hd
  have HH := Lib.hid h
  have HK := Lib.hid hk
  have HW1 := Lib.hid hw1
  have HW2 := Lib.hid hw2
  have HW3 := Lib.hid hw3
  have HE := Lib.hid hE
  have H00 := Lib.hid h0
  clear h hd h3 hE hk hw1 hw2 hw3 h0 hO hr
  go_enter Tryz.func12, Tryz.ntmps12
  go_wp2_with (first | (rw [HW1.out]) | (rw [HW2.out]) | (rw [HW3.out]) | fail)
  refine HO.out.mono ?_
  rintro e w4 ⟨rfl, ht⟩
  have T4 : PTurn g base cap A H' w w4 := ht.after HD.out.bel
  have E4 : ET w4 := HE.out.keep (T4.tch.block 0 HE.out.lt H00.out)
  have t34 : Tch (foot g A) w3 w4 := ht.tch
  have m4 := (t34.block _ (heap_lt HD.out.n4) (HK.out _ HD.out.l4)).trans HD.out.n4
  have m5 := (t34.block _ (heap_lt HD.out.n5) (HK.out _ HD.out.l5)).trans HD.out.n5
  obtain ⟨⟨y0, y1, y2, y3, y4, y5, y6, y7, y8⟩, f0, f1, f2, f3, f4, f5, f6, f7, f8⟩ := rp_cells m5
  have hy := heap_lt' m5
  clear z0 z1 z2 z3 z4 z5 hz HO t34
  obtain ⟨w5, hw5⟩ : ∃ w5, w4.setCell ⟨w2.heap.size, 1, none⟩ (.int .u64 (rh : Int)) = w5 := ⟨_, rfl⟩
  have n5 : w5.heap[w2.heap.size]? = some (.cells #[.int .i64 0, .int .u64 (rh : Int), .int .u64 0, .slice none 0 0, .int .i64 0, .int .i64 0, .int .i64 0, .int .i64 0, .int .i64 0] 45 (0, 0)) := by rw [← hw5]; exact heap_setCell_same w4 w2.heap.size 1 _ _ _ m5
  have t5 : Tch (fun k => k = w2.heap.size) w4 w5 := by rw [← hw5]; exact Tch.set (S := fun k => k = w2.heap.size) w4 ⟨w2.heap.size, 1, none⟩ _ rfl
  have HW5 := Lib.hid hw5
  clear hw5
  have E5 : ET w5 := E4.keep (t5.block 0 E4.lt (fun e => by
    have e : 0 = w2.heap.size := e
    have h1 := HD.out.l5
    have h2 := HE.out.lt
    omega))
  have m5' : w5.heap[w1.heap.size]? = some (.cells rp0 45 (0, 0)) := (t5.block _ (heap_lt m4) HD.out.ne).trans m4
  have HNM := Lib.hid (hnumber_any E5 rk)
  have HT5 := Lib.hid t5
  have HN5 := Lib.hid n5
  have HM5 := Lib.hid m5'
  have HM4 := Lib.hid m4
  have HM45 := Lib.hid m5
  have HT4 := Lib.hid T4
  clear E4 E5 m4 m5 m5' n5 t5 T4
  go_wp2_with (first | (rw [HW5.out]) | fail)
  refine HNM.out.mono ?_
  rintro e w6 ⟨rfl, hb6⟩
  have n6 := (hb6.block _ (heap_lt HN5.out)).trans HN5.out
  have m6 := (hb6.block _ (heap_lt HM5.out)).trans HM5.out
  obtain ⟨w7, hw7⟩ : ∃ w7, w6.setCell ⟨w2.heap.size, 0, none⟩ (.int .i64 rk) = w7 := ⟨_, rfl⟩
  have n7 : w7.heap[w2.heap.size]? = some (.cells #[.int .i64 rk, .int .u64 (rh : Int), .int .u64 0, .slice none 0 0, .int .i64 0, .int .i64 0, .int .i64 0, .int .i64 0, .int .i64 0] 45 (0, 0)) := by rw [← hw7]; exact heap_setCell_same w6 w2.heap.size 0 _ _ _ n6
  have m7 : w7.heap[w1.heap.size]? = some (.cells rp0 45 (0, 0)) := by rw [← hw7]; exact (Below.heap_setCell w6 ⟨w2.heap.size, 0, none⟩ _ w1.heap.size HD.out.ne).trans m6
  have t7 : Tch (fun k => k = w2.heap.size) w6 w7 := by rw [← hw7]; exact Tch.set (S := fun k => k = w2.heap.size) w6 ⟨w2.heap.size, 0, none⟩ _ rfl
  have tf : Tch (fun k => k = w1.heap.size ∨ k = w2.heap.size) w4 (set9 w7 w1.heap.size (.int .i64 rk) (.int .u64 (rh : Int)) (.int .u64 0) (.slice none 0 0) (.int .i64 0) (.int .i64 0) (.int .i64 0) (.int .i64 0) (.int .i64 0)) :=
    (((((Tch.refl (fun k => k = w1.heap.size ∨ k = w2.heap.size) w4).trans HT5.out (fun _ _ e => .inr e)).trans (Tch.of_below (S := fun _ => False) hb6) (fun _ _ h => h.elim)).trans t7 (fun _ _ e => .inr e)).trans (set9_tch w7 w1.heap.size (.int .i64 rk) (.int .u64 (rh : Int)) (.int .u64 0) (.slice none 0 0) (.int .i64 0) (.int .i64 0) (.int .i64 0) (.int .i64 0) (.int .i64 0)) (fun _ _ e => .inl e))
  have TF := Lib.hid tf
  have MF := Lib.hid (rp_set m7 (.int .i64 rk) (.int .u64 (rh : Int)) (.int .u64 0) (.slice none 0 0) (.int .i64 0) (.int .i64 0) (.int .i64 0) (.int .i64 0) (.int .i64 0))
  clear y0 y1 y2 y3 y4 y5 y6 y7 y8 f0 f1 f2 f3 f4 f5 f6 f7 f8 hy
  obtain ⟨⟨y0, y1, y2, y3, y4, y5, y6, y7, y8⟩, f0, f1, f2, f3, f4, f5, f6, f7, f8⟩ := rp_cells n6
  have hy6 := heap_lt' n6
  have HW7 := Lib.hid hw7
  obtain ⟨⟨u0, u1, u2, u3, u4, u5, u6, u7, u8⟩, _⟩ := rp_cells n7
  have hy7 := heap_lt' n7
  obtain ⟨⟨v0, v1, v2, v3, v4, v5, v6, v7, v8⟩, e0, e1, e2, e3, e4, e5, e6, e7, e8⟩ := rp_cells m7
  have hm7 := heap_lt' m7
  clear hb6 n6 m6 hw7 n7 m7 t7 tf HNM HT5 HN5 HM5
  go_wp2_with (first | (rw [HW7.out]) | fail)
  (try simp only [Exit.inBlock, Exit.then])
  refine rep_ret (g := w1.heap.size) Tryz.results12 ?_ ?_ MF.out ?_
  · rfl
  · rfl
  · exact ⟨⟨none, 0, rfl, World.ownsRow_nil _ _ _ _⟩, HT4.out.ends HM4.out HM45.out HD.out.l4 HD.out.l5 TF.out⟩
set_option maxRecDepth 100000 in
set_option maxHeartbeats 4000000 in
theorem hdo_5 {w : World} {q g base cap c : Nat} {A : Option Addr} {bs : List UInt8} {H : Hp} (h : PH w q g base cap A c bs H) (hE : ET w) (h0 : ¬ foot g A 0) (p n m a bl k : Nat) (B : Option Addr) (b : List UInt8) (hp : p < 18446744073709551616) :
    Calls Tryz.prog 12 #[.pointer (some ⟨q, 0, none⟩), callV 5 p n m a B bl k] w fun e w' => DoTold (H.doC 5 p n m a b).1 w e w' ∧ PTurn g base cap A (H.doC 5 p n m a b).2 w w' := by
  rw [doC_5]
  unfold callV
  have hd := Do3.made w #[.int .i64 5, .int .u64 (p : Int), .int .u64 (n : Int), .int .u64 (m : Int), .int .u64 (a : Int), .slice B bl k]
  obtain ⟨w1, hw1⟩ : ∃ w1, w.alloc (.cells #[.int .i64 5, .int .u64 (p : Int), .int .u64 (n : Int), .int .u64 (m : Int), .int .u64 (a : Int), .slice B bl k] 38) = w1 := ⟨_, rfl⟩
  rw [hw1] at hd
  obtain ⟨w2, hw2⟩ : ∃ w2, w1.alloc (.cells rp0 45) = w2 := ⟨_, rfl⟩
  rw [hw2] at hd
  obtain ⟨w3, hw3⟩ : ∃ w3, w2.alloc (.cells rp0 45) = w3 := ⟨_, rfl⟩
  rw [hw3] at hd
  unfold rp0 at hw2 hw3
  obtain ⟨z0, z1, z2, z3, z4, z5⟩ := cl_cells hd.n3
  have hz := heap_lt' hd.n3
  have h3 := h.below hd.bel
  have hk : ∀ k, w.heap.size ≤ k → ¬ foot g A k := fun k hk hf => by have := h.ar.foot_lt hf; omega
  have hO := husablep_any h3 p hp
  obtain ⟨r, hr⟩ : ∃ r, H.usableP p = r := ⟨_, rfl⟩
  rw [hr] at hO ⊢
  obtain ⟨rh, rk⟩ := r
  dsimp only at hO
  dsimp only
  have HO := Lib.hid hO
  have HD := Lib.hid hd
  have HH := Lib.hid h
  have HK := Lib.hid hk
  have HW1 := Lib.hid hw1
  have HW2 := Lib.hid hw2
  have HW3 := Lib.hid hw3
  have HE := Lib.hid hE
  have H00 := Lib.hid h0
  clear h hd h3 hE hk hw1 hw2 hw3 h0 hO hr
  go_enter Tryz.func12, Tryz.ntmps12
  go_wp2_with (first | (rw [HW1.out]) | (rw [HW2.out]) | (rw [HW3.out]) | fail)
  refine HO.out.mono ?_
  rintro e w4 ⟨rfl, hb4⟩
  have T4 : PTurn g base cap A H w w4 := HH.out.stay (HD.out.bel.trans (hb4.mono HD.out.bel.size))
  have E4 : ET w4 := HE.out.keep (T4.tch.block 0 HE.out.lt H00.out)
  have t34 : Tch (foot g A) w3 w4 := Tch.of_below hb4
  have m4 := (t34.block _ (heap_lt HD.out.n4) (HK.out _ HD.out.l4)).trans HD.out.n4
  have m5 := (t34.block _ (heap_lt HD.out.n5) (HK.out _ HD.out.l5)).trans HD.out.n5
  obtain ⟨⟨y0, y1, y2, y3, y4, y5, y6, y7, y8⟩, f0, f1, f2, f3, f4, f5, f6, f7, f8⟩ := rp_cells m5
  have hy := heap_lt' m5
  clear z0 z1 z2 z3 z4 z5 hz HO t34
  obtain ⟨w5, hw5⟩ : ∃ w5, w4.setCell ⟨w2.heap.size, 2, none⟩ (.int .u64 (rh : Int)) = w5 := ⟨_, rfl⟩
  have n5 : w5.heap[w2.heap.size]? = some (.cells #[.int .i64 0, .int .u64 0, .int .u64 (rh : Int), .slice none 0 0, .int .i64 0, .int .i64 0, .int .i64 0, .int .i64 0, .int .i64 0] 45 (0, 0)) := by rw [← hw5]; exact heap_setCell_same w4 w2.heap.size 2 _ _ _ m5
  have t5 : Tch (fun k => k = w2.heap.size) w4 w5 := by rw [← hw5]; exact Tch.set (S := fun k => k = w2.heap.size) w4 ⟨w2.heap.size, 2, none⟩ _ rfl
  have HW5 := Lib.hid hw5
  clear hw5
  have E5 : ET w5 := E4.keep (t5.block 0 E4.lt (fun e => by
    have e : 0 = w2.heap.size := e
    have h1 := HD.out.l5
    have h2 := HE.out.lt
    omega))
  have m5' : w5.heap[w1.heap.size]? = some (.cells rp0 45 (0, 0)) := (t5.block _ (heap_lt m4) HD.out.ne).trans m4
  have HNM := Lib.hid (hnumber_any E5 rk)
  have HT5 := Lib.hid t5
  have HN5 := Lib.hid n5
  have HM5 := Lib.hid m5'
  have HM4 := Lib.hid m4
  have HM45 := Lib.hid m5
  have HT4 := Lib.hid T4
  clear E4 E5 m4 m5 m5' n5 t5 T4
  go_wp2_with (first | (rw [HW5.out]) | fail)
  refine HNM.out.mono ?_
  rintro e w6 ⟨rfl, hb6⟩
  have n6 := (hb6.block _ (heap_lt HN5.out)).trans HN5.out
  have m6 := (hb6.block _ (heap_lt HM5.out)).trans HM5.out
  obtain ⟨w7, hw7⟩ : ∃ w7, w6.setCell ⟨w2.heap.size, 0, none⟩ (.int .i64 rk) = w7 := ⟨_, rfl⟩
  have n7 : w7.heap[w2.heap.size]? = some (.cells #[.int .i64 rk, .int .u64 0, .int .u64 (rh : Int), .slice none 0 0, .int .i64 0, .int .i64 0, .int .i64 0, .int .i64 0, .int .i64 0] 45 (0, 0)) := by rw [← hw7]; exact heap_setCell_same w6 w2.heap.size 0 _ _ _ n6
  have m7 : w7.heap[w1.heap.size]? = some (.cells rp0 45 (0, 0)) := by rw [← hw7]; exact (Below.heap_setCell w6 ⟨w2.heap.size, 0, none⟩ _ w1.heap.size HD.out.ne).trans m6
  have t7 : Tch (fun k => k = w2.heap.size) w6 w7 := by rw [← hw7]; exact Tch.set (S := fun k => k = w2.heap.size) w6 ⟨w2.heap.size, 0, none⟩ _ rfl
  have tf : Tch (fun k => k = w1.heap.size ∨ k = w2.heap.size) w4 (set9 w7 w1.heap.size (.int .i64 rk) (.int .u64 0) (.int .u64 (rh : Int)) (.slice none 0 0) (.int .i64 0) (.int .i64 0) (.int .i64 0) (.int .i64 0) (.int .i64 0)) :=
    (((((Tch.refl (fun k => k = w1.heap.size ∨ k = w2.heap.size) w4).trans HT5.out (fun _ _ e => .inr e)).trans (Tch.of_below (S := fun _ => False) hb6) (fun _ _ h => h.elim)).trans t7 (fun _ _ e => .inr e)).trans (set9_tch w7 w1.heap.size (.int .i64 rk) (.int .u64 0) (.int .u64 (rh : Int)) (.slice none 0 0) (.int .i64 0) (.int .i64 0) (.int .i64 0) (.int .i64 0) (.int .i64 0)) (fun _ _ e => .inl e))
  have TF := Lib.hid tf
  have MF := Lib.hid (rp_set m7 (.int .i64 rk) (.int .u64 0) (.int .u64 (rh : Int)) (.slice none 0 0) (.int .i64 0) (.int .i64 0) (.int .i64 0) (.int .i64 0) (.int .i64 0))
  clear y0 y1 y2 y3 y4 y5 y6 y7 y8 f0 f1 f2 f3 f4 f5 f6 f7 f8 hy
  obtain ⟨⟨y0, y1, y2, y3, y4, y5, y6, y7, y8⟩, f0, f1, f2, f3, f4, f5, f6, f7, f8⟩ := rp_cells n6
  have hy6 := heap_lt' n6
  have HW7 := Lib.hid hw7
  obtain ⟨⟨u0, u1, u2, u3, u4, u5, u6, u7, u8⟩, _⟩ := rp_cells n7
  have hy7 := heap_lt' n7
  obtain ⟨⟨v0, v1, v2, v3, v4, v5, v6, v7, v8⟩, e0, e1, e2, e3, e4, e5, e6, e7, e8⟩ := rp_cells m7
  have hm7 := heap_lt' m7
  clear hb6 n6 m6 hw7 n7 m7 t7 tf HNM HT5 HN5 HM5
  go_wp2_with (first | (rw [HW7.out]) | fail)
  (try simp only [Exit.inBlock, Exit.then])
  refine rep_ret (g := w1.heap.size) Tryz.results12 ?_ ?_ MF.out ?_
  · rfl
  · rfl
  · exact ⟨⟨none, 0, rfl, World.ownsRow_nil _ _ _ _⟩, HT4.out.ends HM4.out HM45.out HD.out.l4 HD.out.l5 TF.out⟩
set_option maxRecDepth 100000 in
set_option maxHeartbeats 4000000 in
theorem hdo_6 {w : World} {q g base cap c : Nat} {A : Option Addr} {bs : List UInt8} {H : Hp} (h : PH w q g base cap A c bs H) (hE : ET w) (h0 : ¬ foot g A 0) (p n m a bl k : Nat) (B : Option Addr) (b : List UInt8) (hp : p < 18446744073709551616) (ha : a < 18446744073709551616) (hn : n < 18446744073709551616) :
    Calls Tryz.prog 12 #[.pointer (some ⟨q, 0, none⟩), callV 6 p n m a B bl k] w fun e w' => DoTold (H.doC 6 p n m a b).1 w e w' ∧ PTurn g base cap A (H.doC 6 p n m a b).2 w w' := by
  rw [doC_6]
  unfold callV
  have hd := Do3.made w #[.int .i64 6, .int .u64 (p : Int), .int .u64 (n : Int), .int .u64 (m : Int), .int .u64 (a : Int), .slice B bl k]
  obtain ⟨w1, hw1⟩ : ∃ w1, w.alloc (.cells #[.int .i64 6, .int .u64 (p : Int), .int .u64 (n : Int), .int .u64 (m : Int), .int .u64 (a : Int), .slice B bl k] 38) = w1 := ⟨_, rfl⟩
  rw [hw1] at hd
  obtain ⟨w2, hw2⟩ : ∃ w2, w1.alloc (.cells rp0 45) = w2 := ⟨_, rfl⟩
  rw [hw2] at hd
  obtain ⟨w3, hw3⟩ : ∃ w3, w2.alloc (.cells rp0 45) = w3 := ⟨_, rfl⟩
  rw [hw3] at hd
  unfold rp0 at hw2 hw3
  obtain ⟨z0, z1, z2, z3, z4, z5⟩ := cl_cells hd.n3
  have hz := heap_lt' hd.n3
  have h3 := h.below hd.bel
  have hk : ∀ k, w.heap.size ≤ k → ¬ foot g A k := fun k hk hf => by have := h.ar.foot_lt hf; omega
  have hO := hread_any h3 p a n hp ha hn
  obtain ⟨r, hr⟩ : ∃ r, H.readP p a n = r := ⟨_, rfl⟩
  rw [hr] at hO ⊢
  obtain ⟨rb, rk⟩ := r
  unfold PBytes at hO
  dsimp only at hO
  dsimp only
  have hbs := hd.bel.size
  have HO := Lib.hid hO
  have HD := Lib.hid hd
  have HH := Lib.hid h
  have HK := Lib.hid hk
  have HW1 := Lib.hid hw1
  have HW2 := Lib.hid hw2
  have HW3 := Lib.hid hw3
  have HE := Lib.hid hE
  have H00 := Lib.hid h0
  clear h hd h3 hE hk hw1 hw2 hw3 h0 hO hr
  go_enter Tryz.func12, Tryz.ntmps12
  go_wp2_with (first | (rw [HW1.out]) | (rw [HW2.out]) | (rw [HW3.out]) | fail)
  refine HO.out.mono ?_
  rintro e w4 ⟨A', c', rfl, ho, hb4⟩
  have T4 : PTurn g base cap A H w w4 := HH.out.stay (HD.out.bel.trans (hb4.mono HD.out.bel.size))
  have E4 : ET w4 := HE.out.keep (T4.tch.block 0 HE.out.lt H00.out)
  have t34 : Tch (foot g A) w3 w4 := Tch.of_below hb4
  have m4 := (t34.block _ (heap_lt HD.out.n4) (HK.out _ HD.out.l4)).trans HD.out.n4
  have m5 := (t34.block _ (heap_lt HD.out.n5) (HK.out _ HD.out.l5)).trans HD.out.n5
  obtain ⟨⟨y0, y1, y2, y3, y4, y5, y6, y7, y8⟩, f0, f1, f2, f3, f4, f5, f6, f7, f8⟩ := rp_cells m5
  have hy := heap_lt' m5
  clear z0 z1 z2 z3 z4 z5 hz HO t34
  obtain ⟨w5, hw5⟩ : ∃ w5, w4.setCell ⟨w2.heap.size, 3, none⟩ (.slice A' rb.length c') = w5 := ⟨_, rfl⟩
  have n5 : w5.heap[w2.heap.size]? = some (.cells #[.int .i64 0, .int .u64 0, .int .u64 0, .slice A' rb.length c', .int .i64 0, .int .i64 0, .int .i64 0, .int .i64 0, .int .i64 0] 45 (0, 0)) := by rw [← hw5]; exact heap_setCell_same w4 w2.heap.size 3 _ _ _ m5
  have t5 : Tch (fun k => k = w2.heap.size) w4 w5 := by rw [← hw5]; exact Tch.set (S := fun k => k = w2.heap.size) w4 ⟨w2.heap.size, 3, none⟩ _ rfl
  have HW5 := Lib.hid hw5
  clear hw5
  have E5 : ET w5 := E4.keep (t5.block 0 E4.lt (fun e => by
    have e : 0 = w2.heap.size := e
    have h1 := HD.out.l5
    have h2 := HE.out.lt
    omega))
  have m5' : w5.heap[w1.heap.size]? = some (.cells rp0 45 (0, 0)) := (t5.block _ (heap_lt m4) HD.out.ne).trans m4
  have HNM := Lib.hid (hnumber_any E5 rk)
  have HT5 := Lib.hid t5
  have HN5 := Lib.hid n5
  have HM5 := Lib.hid m5'
  have HM4 := Lib.hid m4
  have HM45 := Lib.hid m5
  have HT4 := Lib.hid T4
  clear E4 E5 m4 m5 m5' n5 t5 T4
  go_wp2_with (first | (rw [HW5.out]) | fail)
  refine HNM.out.mono ?_
  rintro e w6 ⟨rfl, hb6⟩
  have n6 := (hb6.block _ (heap_lt HN5.out)).trans HN5.out
  have m6 := (hb6.block _ (heap_lt HM5.out)).trans HM5.out
  obtain ⟨w7, hw7⟩ : ∃ w7, w6.setCell ⟨w2.heap.size, 0, none⟩ (.int .i64 rk) = w7 := ⟨_, rfl⟩
  have n7 : w7.heap[w2.heap.size]? = some (.cells #[.int .i64 rk, .int .u64 0, .int .u64 0, .slice A' rb.length c', .int .i64 0, .int .i64 0, .int .i64 0, .int .i64 0, .int .i64 0] 45 (0, 0)) := by rw [← hw7]; exact heap_setCell_same w6 w2.heap.size 0 _ _ _ n6
  have m7 : w7.heap[w1.heap.size]? = some (.cells rp0 45 (0, 0)) := by rw [← hw7]; exact (Below.heap_setCell w6 ⟨w2.heap.size, 0, none⟩ _ w1.heap.size HD.out.ne).trans m6
  have t7 : Tch (fun k => k = w2.heap.size) w6 w7 := by rw [← hw7]; exact Tch.set (S := fun k => k = w2.heap.size) w6 ⟨w2.heap.size, 0, none⟩ _ rfl
  have tf : Tch (fun k => k = w1.heap.size ∨ k = w2.heap.size) w4 (set9 w7 w1.heap.size (.int .i64 rk) (.int .u64 0) (.int .u64 0) (.slice A' rb.length c') (.int .i64 0) (.int .i64 0) (.int .i64 0) (.int .i64 0) (.int .i64 0)) :=
    (((((Tch.refl (fun k => k = w1.heap.size ∨ k = w2.heap.size) w4).trans HT5.out (fun _ _ e => .inr e)).trans (Tch.of_below (S := fun _ => False) hb6) (fun _ _ h => h.elim)).trans t7 (fun _ _ e => .inr e)).trans (set9_tch w7 w1.heap.size (.int .i64 rk) (.int .u64 0) (.int .u64 0) (.slice A' rb.length c') (.int .i64 0) (.int .i64 0) (.int .i64 0) (.int .i64 0) (.int .i64 0)) (fun _ _ e => .inl e))
  have TF := Lib.hid tf
  have MF := Lib.hid (rp_set m7 (.int .i64 rk) (.int .u64 0) (.int .u64 0) (.slice A' rb.length c') (.int .i64 0) (.int .i64 0) (.int .i64 0) (.int .i64 0) (.int .i64 0))
  clear y0 y1 y2 y3 y4 y5 y6 y7 y8 f0 f1 f2 f3 f4 f5 f6 f7 f8 hy
  obtain ⟨⟨y0, y1, y2, y3, y4, y5, y6, y7, y8⟩, f0, f1, f2, f3, f4, f5, f6, f7, f8⟩ := rp_cells n6
  have hy6 := heap_lt' n6
  have HW7 := Lib.hid hw7
  obtain ⟨⟨u0, u1, u2, u3, u4, u5, u6, u7, u8⟩, _⟩ := rp_cells n7
  have hy7 := heap_lt' n7
  obtain ⟨⟨v0, v1, v2, v3, v4, v5, v6, v7, v8⟩, e0, e1, e2, e3, e4, e5, e6, e7, e8⟩ := rp_cells m7
  have hm7 := heap_lt' m7
  clear hb6 n6 m6 hw7 n7 m7 t7 tf HNM HT5 HN5 HM5
  go_wp2_with (first | (rw [HW7.out]) | fail)
  (try simp only [Exit.inBlock, Exit.then])
  refine rep_ret (g := w1.heap.size) Tryz.results12 ?_ ?_ MF.out ?_
  · rfl
  · rfl
  · exact ⟨⟨A', c', rfl, ownB_mono (ownR_keep ho (fun j e => TF.out.block j (ho.lt j e).2 (by
      have h1 := (ho.lt j e).1
      have h2 := heap_lt HD.out.n4
      have h3 := heap_lt HD.out.n5
      rintro (rfl | rfl) <;> omega))) hbs⟩, HT4.out.ends HM4.out HM45.out HD.out.l4 HD.out.l5 TF.out⟩
set_option maxRecDepth 100000 in
set_option maxHeartbeats 4000000 in
theorem hdo_7 {w : World} {q g base cap c : Nat} {A : Option Addr} {bs : List UInt8} {H : Hp} (h : PH w q g base cap A c bs H) (hE : ET w) (h0 : ¬ foot g A 0) (p n m a bl k : Nat) (B : Option Addr) (b : List UInt8) (hp : p < 18446744073709551616) (ha : a < 18446744073709551616) (hbl : b.length = bl) (hr : Rd w w.heap.size B b.length b) (hb6 : bl ≤ 1000000) :
    Calls Tryz.prog 12 #[.pointer (some ⟨q, 0, none⟩), callV 7 p n m a B bl k] w fun e w' => DoTold (H.doC 7 p n m a b).1 w e w' ∧ PTurn g base cap A (H.doC 7 p n m a b).2 w w' := by
  rw [doC_7]
  unfold callV
  have hd := Do3.made w #[.int .i64 7, .int .u64 (p : Int), .int .u64 (n : Int), .int .u64 (m : Int), .int .u64 (a : Int), .slice B bl k]
  obtain ⟨w1, hw1⟩ : ∃ w1, w.alloc (.cells #[.int .i64 7, .int .u64 (p : Int), .int .u64 (n : Int), .int .u64 (m : Int), .int .u64 (a : Int), .slice B bl k] 38) = w1 := ⟨_, rfl⟩
  rw [hw1] at hd
  obtain ⟨w2, hw2⟩ : ∃ w2, w1.alloc (.cells rp0 45) = w2 := ⟨_, rfl⟩
  rw [hw2] at hd
  obtain ⟨w3, hw3⟩ : ∃ w3, w2.alloc (.cells rp0 45) = w3 := ⟨_, rfl⟩
  rw [hw3] at hd
  unfold rp0 at hw2 hw3
  obtain ⟨z0, z1, z2, z3, z4, z5⟩ := cl_cells hd.n3
  have hz := heap_lt' hd.n3
  have h3 := h.below hd.bel
  have hk : ∀ k, w.heap.size ≤ k → ¬ foot g A k := fun k hk hf => by have := h.ar.foot_lt hf; omega
  have hO := hwrite_any h3 p a b B k ((hr.below hd.bel).more hd.bel.size) hp ha (by omega)
  rw [hbl] at hO
  obtain ⟨r, hr2⟩ : ∃ r, H.writeP p a b = r := ⟨_, rfl⟩
  rw [hr2] at hO ⊢
  obtain ⟨rk, H'⟩ := r
  dsimp only at hO
  dsimp only [Rp.err]
  have HO := Lib.hid hO
  have HD := Lib.hid hd
  have HH := Lib.hid h
  have HK := Lib.hid hk
  have HW1 := Lib.hid hw1
  have HW2 := Lib.hid hw2
  have HW3 := Lib.hid hw3
  have HE := Lib.hid hE
  have H00 := Lib.hid h0
  clear h hd h3 hE hk hw1 hw2 hw3 h0 hO hr hr2 hbl
  go_enter Tryz.func12, Tryz.ntmps12
  go_wp2_with (first | (rw [HW1.out]) | (rw [HW2.out]) | (rw [HW3.out]) | fail)
  refine HO.out.mono ?_
  rintro e w4 ⟨rfl, ht⟩
  have T4 : PTurn g base cap A H' w w4 := ht.after HD.out.bel
  have E4 : ET w4 := HE.out.keep (T4.tch.block 0 HE.out.lt H00.out)
  have t34 : Tch (foot g A) w3 w4 := ht.tch
  have m4 := (t34.block _ (heap_lt HD.out.n4) (HK.out _ HD.out.l4)).trans HD.out.n4
  have m5 := (t34.block _ (heap_lt HD.out.n5) (HK.out _ HD.out.l5)).trans HD.out.n5
  obtain ⟨⟨y0, y1, y2, y3, y4, y5, y6, y7, y8⟩, f0, f1, f2, f3, f4, f5, f6, f7, f8⟩ := rp_cells m5
  have hy := heap_lt' m5
  clear z0 z1 z2 z3 z4 z5 hz HO t34
  have n5 : w4.heap[w2.heap.size]? = some (.cells #[.int .i64 0, .int .u64 0, .int .u64 0, .slice none 0 0, .int .i64 0, .int .i64 0, .int .i64 0, .int .i64 0, .int .i64 0] 45 (0, 0)) := m5
  have t5 : Tch (fun k => k = w2.heap.size) w4 w4 := Tch.refl _ _
  have E5 : ET w4 := E4.keep (t5.block 0 E4.lt (fun e => by
    have e : 0 = w2.heap.size := e
    have h1 := HD.out.l5
    have h2 := HE.out.lt
    omega))
  have m5' : w4.heap[w1.heap.size]? = some (.cells rp0 45 (0, 0)) := (t5.block _ (heap_lt m4) HD.out.ne).trans m4
  have HNM := Lib.hid (hnumber_any E5 rk)
  have HT5 := Lib.hid t5
  have HN5 := Lib.hid n5
  have HM5 := Lib.hid m5'
  have HM4 := Lib.hid m4
  have HM45 := Lib.hid m5
  have HT4 := Lib.hid T4
  clear E4 E5 m4 m5 m5' n5 t5 T4
  go_wp2_with fail
  refine HNM.out.mono ?_
  rintro e w6 ⟨rfl, hb6⟩
  have n6 := (hb6.block _ (heap_lt HN5.out)).trans HN5.out
  have m6 := (hb6.block _ (heap_lt HM5.out)).trans HM5.out
  obtain ⟨w7, hw7⟩ : ∃ w7, w6.setCell ⟨w2.heap.size, 0, none⟩ (.int .i64 rk) = w7 := ⟨_, rfl⟩
  have n7 : w7.heap[w2.heap.size]? = some (.cells #[.int .i64 rk, .int .u64 0, .int .u64 0, .slice none 0 0, .int .i64 0, .int .i64 0, .int .i64 0, .int .i64 0, .int .i64 0] 45 (0, 0)) := by rw [← hw7]; exact heap_setCell_same w6 w2.heap.size 0 _ _ _ n6
  have m7 : w7.heap[w1.heap.size]? = some (.cells rp0 45 (0, 0)) := by rw [← hw7]; exact (Below.heap_setCell w6 ⟨w2.heap.size, 0, none⟩ _ w1.heap.size HD.out.ne).trans m6
  have t7 : Tch (fun k => k = w2.heap.size) w6 w7 := by rw [← hw7]; exact Tch.set (S := fun k => k = w2.heap.size) w6 ⟨w2.heap.size, 0, none⟩ _ rfl
  have tf : Tch (fun k => k = w1.heap.size ∨ k = w2.heap.size) w4 (set9 w7 w1.heap.size (.int .i64 rk) (.int .u64 0) (.int .u64 0) (.slice none 0 0) (.int .i64 0) (.int .i64 0) (.int .i64 0) (.int .i64 0) (.int .i64 0)) :=
    (((((Tch.refl (fun k => k = w1.heap.size ∨ k = w2.heap.size) w4).trans HT5.out (fun _ _ e => .inr e)).trans (Tch.of_below (S := fun _ => False) hb6) (fun _ _ h => h.elim)).trans t7 (fun _ _ e => .inr e)).trans (set9_tch w7 w1.heap.size (.int .i64 rk) (.int .u64 0) (.int .u64 0) (.slice none 0 0) (.int .i64 0) (.int .i64 0) (.int .i64 0) (.int .i64 0) (.int .i64 0)) (fun _ _ e => .inl e))
  have TF := Lib.hid tf
  have MF := Lib.hid (rp_set m7 (.int .i64 rk) (.int .u64 0) (.int .u64 0) (.slice none 0 0) (.int .i64 0) (.int .i64 0) (.int .i64 0) (.int .i64 0) (.int .i64 0))
  clear y0 y1 y2 y3 y4 y5 y6 y7 y8 f0 f1 f2 f3 f4 f5 f6 f7 f8 hy
  obtain ⟨⟨y0, y1, y2, y3, y4, y5, y6, y7, y8⟩, f0, f1, f2, f3, f4, f5, f6, f7, f8⟩ := rp_cells n6
  have hy6 := heap_lt' n6
  have HW7 := Lib.hid hw7
  obtain ⟨⟨u0, u1, u2, u3, u4, u5, u6, u7, u8⟩, _⟩ := rp_cells n7
  have hy7 := heap_lt' n7
  obtain ⟨⟨v0, v1, v2, v3, v4, v5, v6, v7, v8⟩, e0, e1, e2, e3, e4, e5, e6, e7, e8⟩ := rp_cells m7
  have hm7 := heap_lt' m7
  clear hb6 n6 m6 hw7 n7 m7 t7 tf HNM HT5 HN5 HM5
  go_wp2_with (first | (rw [HW7.out]) | fail)
  (try simp only [Exit.inBlock, Exit.then])
  refine rep_ret (g := w1.heap.size) Tryz.results12 ?_ ?_ MF.out ?_
  · rfl
  · rfl
  · exact ⟨⟨none, 0, rfl, World.ownsRow_nil _ _ _ _⟩, HT4.out.ends HM4.out HM45.out HD.out.l4 HD.out.l5 TF.out⟩
set_option maxRecDepth 100000 in
set_option maxHeartbeats 4000000 in
theorem hdo_8 {w : World} {q g base cap c : Nat} {A : Option Addr} {bs : List UInt8} {H : Hp} (h : PH w q g base cap A c bs H) (hE : ET w) (h0 : ¬ foot g A 0) (p n m a bl k : Nat) (B : Option Addr) (b : List UInt8) :
    Calls Tryz.prog 12 #[.pointer (some ⟨q, 0, none⟩), callV 8 p n m a B bl k] w fun e w' => DoTold (H.doC 8 p n m a b).1 w e w' ∧ PTurn g base cap A (H.doC 8 p n m a b).2 w w' := by
  rw [doC_8]
  unfold callV
  have hd := Do3.made w #[.int .i64 8, .int .u64 (p : Int), .int .u64 (n : Int), .int .u64 (m : Int), .int .u64 (a : Int), .slice B bl k]
  obtain ⟨w1, hw1⟩ : ∃ w1, w.alloc (.cells #[.int .i64 8, .int .u64 (p : Int), .int .u64 (n : Int), .int .u64 (m : Int), .int .u64 (a : Int), .slice B bl k] 38) = w1 := ⟨_, rfl⟩
  rw [hw1] at hd
  obtain ⟨w2, hw2⟩ : ∃ w2, w1.alloc (.cells rp0 45) = w2 := ⟨_, rfl⟩
  rw [hw2] at hd
  obtain ⟨w3, hw3⟩ : ∃ w3, w2.alloc (.cells rp0 45) = w3 := ⟨_, rfl⟩
  rw [hw3] at hd
  unfold rp0 at hw2 hw3
  obtain ⟨z0, z1, z2, z3, z4, z5⟩ := cl_cells hd.n3
  have hz := heap_lt' hd.n3
  have h3 := h.below hd.bel
  have hk : ∀ k, w.heap.size ≤ k → ¬ foot g A k := fun k hk hf => by have := h.ar.foot_lt hf; omega
  have hO := hstats_prog h3
  obtain ⟨r, hr⟩ : ∃ r, H.stats = r := ⟨_, rfl⟩
  rw [hr] at hO ⊢
  obtain ⟨s0, s1, s2, s3, s4⟩ := r
  dsimp only [stV] at hO
  dsimp only
  have HO := Lib.hid hO
  have HD := Lib.hid hd
  have HH := Lib.hid h
  have HK := Lib.hid hk
  have HW1 := Lib.hid hw1
  have HW2 := Lib.hid hw2
  have HW3 := Lib.hid hw3
  have HE := Lib.hid hE
  have H00 := Lib.hid h0
  clear h hd h3 hE hk hw1 hw2 hw3 h0 hO hr
  go_enter Tryz.func12, Tryz.ntmps12
  go_wp2_with (first | (rw [HW1.out]) | (rw [HW2.out]) | (rw [HW3.out]) | fail)
  refine HO.out.mono ?_
  rintro e w4 ⟨rfl, hb4⟩
  have T4 : PTurn g base cap A H w w4 := HH.out.stay (HD.out.bel.trans (hb4.mono HD.out.bel.size))
  have E4 : ET w4 := HE.out.keep (T4.tch.block 0 HE.out.lt H00.out)
  have t34 : Tch (foot g A) w3 w4 := Tch.of_below hb4
  have m4 := (t34.block _ (heap_lt HD.out.n4) (HK.out _ HD.out.l4)).trans HD.out.n4
  have m5 := (t34.block _ (heap_lt HD.out.n5) (HK.out _ HD.out.l5)).trans HD.out.n5
  obtain ⟨⟨y0, y1, y2, y3, y4, y5, y6, y7, y8⟩, f0, f1, f2, f3, f4, f5, f6, f7, f8⟩ := rp_cells m5
  have hy := heap_lt' m5
  clear z0 z1 z2 z3 z4 z5 hz HO t34
  obtain ⟨w5, hw5⟩ : ∃ w5, ((((w4.setCell ⟨w2.heap.size, 4, none⟩ (.int .i64 (s0 : Int))).setCell ⟨w2.heap.size, 5, none⟩ (.int .i64 (s1 : Int))).setCell ⟨w2.heap.size, 6, none⟩ (.int .i64 (s2 : Int))).setCell ⟨w2.heap.size, 7, none⟩ (.int .i64 (s3 : Int))).setCell ⟨w2.heap.size, 8, none⟩ (.int .i64 (s4 : Int)) = w5 := ⟨_, rfl⟩
  have n5 : w5.heap[w2.heap.size]? = some (.cells #[.int .i64 0, .int .u64 0, .int .u64 0, .slice none 0 0, .int .i64 (s0 : Int), .int .i64 (s1 : Int), .int .i64 (s2 : Int), .int .i64 (s3 : Int), .int .i64 (s4 : Int)] 45 (0, 0)) := by rw [← hw5]; exact st_in m5 _ _ _ _ _
  have t5 : Tch (fun k => k = w2.heap.size) w4 w5 := by rw [← hw5]; exact st_tch _ _ _ _ _ _ _
  have HW5 := Lib.hid hw5
  clear hw5
  have E5 : ET w5 := E4.keep (t5.block 0 E4.lt (fun e => by
    have e : 0 = w2.heap.size := e
    have h1 := HD.out.l5
    have h2 := HE.out.lt
    omega))
  have m5' : w5.heap[w1.heap.size]? = some (.cells rp0 45 (0, 0)) := (t5.block _ (heap_lt m4) HD.out.ne).trans m4
  have HNM := Lib.hid (hnumber_nil w5)
  have HT5 := Lib.hid t5
  have HN5 := Lib.hid n5
  have HM5 := Lib.hid m5'
  have HM4 := Lib.hid m4
  have HM45 := Lib.hid m5
  have HT4 := Lib.hid T4
  clear E4 E5 m4 m5 m5' n5 t5 T4
  go_wp2_with (first | (rw [HW5.out]) | fail)
  refine HNM.out.mono ?_
  rintro e w6 ⟨rfl, hb6⟩
  have n6 := (hb6.block _ (heap_lt HN5.out)).trans HN5.out
  have m6 := (hb6.block _ (heap_lt HM5.out)).trans HM5.out
  obtain ⟨w7, hw7⟩ : ∃ w7, w6.setCell ⟨w2.heap.size, 0, none⟩ (.int .i64 0) = w7 := ⟨_, rfl⟩
  have n7 : w7.heap[w2.heap.size]? = some (.cells #[.int .i64 0, .int .u64 0, .int .u64 0, .slice none 0 0, .int .i64 (s0 : Int), .int .i64 (s1 : Int), .int .i64 (s2 : Int), .int .i64 (s3 : Int), .int .i64 (s4 : Int)] 45 (0, 0)) := by rw [← hw7]; exact heap_setCell_same w6 w2.heap.size 0 _ _ _ n6
  have m7 : w7.heap[w1.heap.size]? = some (.cells rp0 45 (0, 0)) := by rw [← hw7]; exact (Below.heap_setCell w6 ⟨w2.heap.size, 0, none⟩ _ w1.heap.size HD.out.ne).trans m6
  have t7 : Tch (fun k => k = w2.heap.size) w6 w7 := by rw [← hw7]; exact Tch.set (S := fun k => k = w2.heap.size) w6 ⟨w2.heap.size, 0, none⟩ _ rfl
  have tf : Tch (fun k => k = w1.heap.size ∨ k = w2.heap.size) w4 (set9 w7 w1.heap.size (.int .i64 0) (.int .u64 0) (.int .u64 0) (.slice none 0 0) (.int .i64 (s0 : Int)) (.int .i64 (s1 : Int)) (.int .i64 (s2 : Int)) (.int .i64 (s3 : Int)) (.int .i64 (s4 : Int))) :=
    (((((Tch.refl (fun k => k = w1.heap.size ∨ k = w2.heap.size) w4).trans HT5.out (fun _ _ e => .inr e)).trans (Tch.of_below (S := fun _ => False) hb6) (fun _ _ h => h.elim)).trans t7 (fun _ _ e => .inr e)).trans (set9_tch w7 w1.heap.size (.int .i64 0) (.int .u64 0) (.int .u64 0) (.slice none 0 0) (.int .i64 (s0 : Int)) (.int .i64 (s1 : Int)) (.int .i64 (s2 : Int)) (.int .i64 (s3 : Int)) (.int .i64 (s4 : Int))) (fun _ _ e => .inl e))
  have TF := Lib.hid tf
  have MF := Lib.hid (rp_set m7 (.int .i64 0) (.int .u64 0) (.int .u64 0) (.slice none 0 0) (.int .i64 (s0 : Int)) (.int .i64 (s1 : Int)) (.int .i64 (s2 : Int)) (.int .i64 (s3 : Int)) (.int .i64 (s4 : Int)))
  clear y0 y1 y2 y3 y4 y5 y6 y7 y8 f0 f1 f2 f3 f4 f5 f6 f7 f8 hy
  obtain ⟨⟨y0, y1, y2, y3, y4, y5, y6, y7, y8⟩, f0, f1, f2, f3, f4, f5, f6, f7, f8⟩ := rp_cells n6
  have hy6 := heap_lt' n6
  have HW7 := Lib.hid hw7
  obtain ⟨⟨u0, u1, u2, u3, u4, u5, u6, u7, u8⟩, _⟩ := rp_cells n7
  have hy7 := heap_lt' n7
  obtain ⟨⟨v0, v1, v2, v3, v4, v5, v6, v7, v8⟩, e0, e1, e2, e3, e4, e5, e6, e7, e8⟩ := rp_cells m7
  have hm7 := heap_lt' m7
  clear hb6 n6 m6 hw7 n7 m7 t7 tf HNM HT5 HN5 HM5
  go_wp2_with (first | (rw [HW7.out]) | fail)
  (try simp only [Exit.inBlock, Exit.then])
  refine rep_ret (g := w1.heap.size) Tryz.results12 ?_ ?_ MF.out ?_
  · rfl
  · rfl
  · exact ⟨⟨none, 0, rfl, World.ownsRow_nil _ _ _ _⟩, HT4.out.ends HM4.out HM45.out HD.out.l4 HD.out.l5 TF.out⟩
end Go.Proofs.YtbldlidpapdkbaaGreatDoor
