/- Texts of mine, joined. -/
import Derived.Lib.Mul64
import Derived.Laws.Bits64b
import Derived.Maps.OwnSet
import Derived.DeepKeys4
import Derived.Test.YtnicenfdlfffpaaGreatDoorM8
set_option maxRecDepth 100000
set_option maxHeartbeats 4000000
namespace Go.Proofs.YtnicenfdlfffpaaGreatDoor
open Go.RowKit
def ah3 (k : Int) : Value := if k = 0 then .nilIface else .iface 67 (.int .i64 k)
theorem af5 : ah3 0 = .nilIface := rfl
theorem an1 : ah3 1 = .iface 67 (.int .i64 1) := rfl
def PTurn (g base cap : Nat) (A : Option Addr) (H' : Hp) (w w' : World) : Prop := ∃ out, Became 79 g base cap A out w w' /\ RtD out H'
def agX (g base cap : Nat) (A : Option Addr) (r : (Nat × Int) × Hp) (w : World) (e : Ending) (w' : World) : Prop :=
 e = .returned (.tuple #[.int .u64 (r.1.1 : Int), ah3 r.1.2]) /\ PTurn g base cap A r.2 w w'
def Hp.freeP (H : Hp) (p : Nat) : Int × Hp := match H.handleB p with
 | none => (4, H)
 | some i => (0, H.give i)
section
variable {w w' : World} {q g base cap c : Nat} {A : Option Addr} {bs out : List UInt8} {H H' : Hp}
theorem PH.stay (h : PH w q g base cap A c bs H) (hb : Below w.heap.size w w') : PTurn g base cap A H w w' := ⟨bs, abF h.ar hb, h.rd⟩
theorem PTurn.ph (h : PH w q g base cap A c bs H) (ht : PTurn g base cap A H' w w') (hc : H'.cap = cap) : ∃ A' c' out, PH w' q g base cap A' c' out H' /\ Tch (abg g A) w w' /\ (A' = A \/ ∀ a, A' = some a -> w.heap.size <= a.block) := by
 obtain ⟨out, hb, hr⟩ := ht; obtain ⟨A', c', h1, h2, h3⟩ := h.became hb hr hc; exact ⟨A', c', out, h1, h2, h3⟩
theorem an2 {H : Hp} (h : Rt bs H) (hc : H.cap <= 16384) {y : Bk} (hy : y ∈ H.blks) : abt bs (y.off : Int) = some y := (h.md hc).ls.st.at_ _ hy
theorem anr {n : Nat} {x : UInt8} (hs : abW n = none) : H.get n x = ((0, 5), H) := by unfold Hp.get; rw [hs]
theorem ans {n s : Nat} {x : UInt8} (hs : abW n = some s) (ht : (H.take s).1 = none) : H.get n x = ((0, 5), H) := by unfold Hp.get; rw [hs]; dsimp only; rw [ht]
theorem ant {n s o i : Nat} {x : UInt8} (hs : abW n = some s) (ht : (H.take s).1 = some o) (hi : atB (o : Int) (H.take s).2.blks = some i) : H.get n x = ((o + 8, 0), ((H.take s).2.wipe i).fill i x) := by unfold Hp.get; rw [hs]; dsimp only; rw [ht]; dsimp only; rw [hi]
theorem ahR (h : PH w q g base cap A c bs H) (n : Nat) (hn : n < 18446744073709551616) (v : UInt8) :
 Calls Tryz.prog 51 #[.pointer (some ⟨q, 0, none⟩), .int .u64 (n : Int), .int .u8 (v.toNat : Int)] w fun e w' => agX g base cap A (H.get n v) w e w' := by
 have hN := apw w n hn
 cases hs : abW n with
 | none =>
  rw [hs] at hN; dsimp only [ad6] at hN; have HN := hE0 hN; have HG := hE0 (anr (H := H) (x := v) hs); have H0 := hE0 h; clear h hN hs; go_enter Tryz.func51, Tryz.ntmps51
  go_wp2_with fail
  refine HN.out.mono ?_; rintro e w2 ⟨rfl, hb⟩; have HT := hE0 (H0.out.stay hb); clear hb HN H0; go_wp2
  go_ret2
  rw [HG.out]; exact ⟨rfl, HT.out⟩
 | some s =>
  have hsz := ach hs; have hss := (aac _).1 hsz; rw [hs] at hN; dsimp only [ad6] at hN; have HN := hE0 hN; have hK : ∀ w1, Below w.heap.size w w1 -> Calls Tryz.prog 84 #[.pointer (some ⟨g, 0, none⟩), .int .i64 (s : Int)] w1 fun e w' => acz g base cap A bs H (H.take s) w1 e w' := fun w1 hb => by
   have := (aoX w1 g base cap c A bs H (s : Int) (h.ar.below hb) h.b62 h.c16 h.cp h.rd.rt ⟨by omega, by omega⟩).2 hsz; rw [Int.toNat_natCast] at this; exact this
  cases ht : (H.take s).1 with
  | none =>
   unfold acz at hK; rw [ht] at hK; dsimp only [aaz] at hK; have HK := hE0 hK; have HG := hE0 (ans (H := H) (x := v) hs ht); have H0 := hE0 h; have k0 : ∀ w1, Below w.heap.size w w1 -> w1.cell? ⟨q, 0, none⟩ = some (.pointer (some ⟨g, 0, none⟩)) := fun w1 hb => (h.below hb).c0; have K0 := hE0 k0; have hlq := h.lt; clear h hN hs hK ht k0 hsz; go_enter Tryz.func51, Tryz.ntmps51
   go_wp2_with fail
   refine HN.out.mono ?_; rintro e w2 ⟨rfl, hb⟩; have k2 := K0.out w2 hb; have hlq2 := Nat.lt_of_lt_of_le hlq hb.size; have HK2 := hE0 (HK.out w2 hb); have HB2 := hE0 hb; clear hb HN HK K0; go_wp2_with fail
   refine HK2.out.mono ?_; rintro e w3 ⟨rfl, hb3⟩; have HT := hE0 (H0.out.stay (HB2.out.trans (hb3.mono HB2.out.size))); clear hb3 H0 HB2 HK2 k2; go_wp2
   go_ret2
   rw [HG.out]; exact ⟨rfl, HT.out⟩
  | some o =>
   unfold acz at hK; rw [ht] at hK; dsimp only [aaz] at hK; have hcap2 : (H.take s).2.cap = cap := take_cap.trans h.cp; have hGOT := fun out h1 hh => h.rd.got (s := s) (out := out) hsz ht h1 hh v; have HGS := hE0 (fun i hi => ant (H := H) (x := v) (i := i) hs ht hi); obtain ⟨H1, hH1⟩ := nmE ((H.take s).2); rw [hH1] at hK hGOT hcap2 HGS; have HGOT := hE0 hGOT; have HK := hE0 hK; have H0 := hE0 h; have k0 : ∀ w1, Below w.heap.size w w1 -> w1.cell? ⟨q, 0, none⟩ = some (.pointer (some ⟨g, 0, none⟩)) := fun w1 hb => (h.below hb).c0; have K0 := hE0 k0; have hlq := h.lt; have HC2 := hE0 hcap2; clear h hN hs hK ht k0 hH1 hGOT hcap2 hsz; go_enter Tryz.func51, Tryz.ntmps51
   go_wp2_with fail
   refine HN.out.mono ?_; rintro e w2 ⟨rfl, hb⟩; have k2 := K0.out w2 hb; have hlq2 := Nat.lt_of_lt_of_le hlq hb.size; have HK2 := hE0 (HK.out w2 hb); have HB2 := hE0 hb; clear hb HN HK K0; go_wp2_with fail
   refine HK2.out.mono ?_; rintro e w3 ⟨rfl, out, hbe, hr1, hh1⟩; obtain ⟨i, y, hi, hy, hyo, hyu, hys, hyl, hrd⟩ := HGOT.out out hr1 hh1; obtain ⟨A3, c3, a3, t3, m3⟩ := hbe.after HB2.out; have ho3 := (t3.block q H0.out.lt H0.out.ap).trans H0.out.obj; have hout : out.length <= 16384 := (hr1.bound (by rw [HC2.out]; exact H0.out.c16)).1; have hgb := an2 hr1 (by rw [HC2.out]; exact H0.out.c16) (List.mem_of_getElem? hy); obtain ⟨yo, ys, yu⟩ := y; dsimp only at hyo hyu hys hyl hrd hgb; subst hyo; have hf := ahQ ho3 a3 H0.out.b62 hout yo ys 0 (yo + 8) v hgb (by omega) (by omega) (by omega) rfl; rw [Nat.add_zero, Nat.sub_zero, show ((0 : Nat) : Int) = 0 from rfl] at hf; have HF := hE0 hf; have HRD := hE0 hrd; have HGI := hE0 (HGS.out i hi); have HTR := hE0 (fun b4 w4 (k : Became 79 g base cap A3 b4 w3 w4) => Became.trans a3 t3 m3 k); clear hbe hr1 hh1 hi hy hyu hyl hrd a3 t3 m3 ho3 hgb hf HGOT HGS HK2 HB2 k2 hlq2; go_wp2_with fail
   refine HF.out.mono ?_; rintro e w4 ⟨rfl, hb4⟩; have HT := hE0 (HTR.out _ _ hb4); clear hb4 HF HTR; go_wp2
   go_ret2
   rw [HGI.out]; exact ⟨rfl, _, HT.out, HRD.out⟩
theorem afn (h : PH w q g base cap A c bs H) (n : Nat) (hn : n < 18446744073709551616) :
 Calls Tryz.prog 22 #[.pointer (some ⟨q, 0, none⟩), .int .u64 (n : Int)] w fun e w' => agX g base cap A (H.get n 165) w e w' := by
 have HK : Hid (Calls Tryz.prog 51 #[.pointer (some ⟨q, 0, none⟩), .int .u64 (n : Int), .int .u8 165] w fun e w' => agX g base cap A (H.get n 165) w e w') := ahR h n hn 165; clear h; go_enter Tryz.func22, Tryz.ntmps22
 go_wp2_with fail
 refine HK.out.mono ?_; rintro e w2 ⟨rfl, ht⟩; have HT := hE0 ht; clear ht HK; go_wp2
 go_ret2
 exact ⟨rfl, HT.out⟩
theorem alQ (h : PH w q g base cap A c bs H) (p : Nat) (hp : p < 18446744073709551616) :
 Calls Tryz.prog 26 #[.pointer (some ⟨q, 0, none⟩), .int .u64 (p : Int)] w fun e w' => e = .returned (ah3 (H.freeP p).1) /\ PTurn g base cap A (H.freeP p).2 w w' := by
 unfold Hp.freeP; have hF := acK h p hp
 cases hh : H.handleB p with
 | none =>
  rw [hh] at hF; dsimp only [bkV, aaz, Option.map, Option.isSome] at hF; have HF := hE0 hF; have H0 := hE0 h; clear h hF hh; go_enter Tryz.func26, Tryz.ntmps26
  go_wp2_with fail
  refine HF.out.mono ?_; rintro e w2 ⟨rfl, hb⟩; have HT := hE0 (H0.out.stay (hb.alloc hb.size (.cells #[.int .i64 0, .int .i64 0, .bool false] 81))); clear hb HF H0; go_wp2
  go_ret
  exact ⟨rfl, HT.out⟩
 | some i =>
  obtain ⟨xo, xs, hbk, hpx, h184, h32, hle, hi, hat, hd, h16, hu⟩ := h.blk hh; rw [hh] at hF; dsimp only [Option.map] at hF; rw [hbk] at hF; dsimp only [bkV, Bk.val, aaz, Option.isSome] at hF; have hg : H.giveO (xo : Int) = some (H.give i) := by unfold Hp.giveO; rw [hu]; rfl
  have hl := h.len; have hK : ∀ w1, Below w.heap.size w w1 -> Calls Tryz.prog 57 #[.pointer (some ⟨g, 0, none⟩), .int .i64 (xo : Int)] w1 fun e w' => acO 3 g base cap A bs H (some (H.give i)) w1 e w' := fun w1 hb => by
   have := apQ w1 g base cap c A bs H (xo : Int) (h.ar.below hb) h.b62 h.c16 h.cp h.rd.rt ⟨by omega, by omega⟩; rw [hg] at this; exact this
  dsimp only [acO, aaz] at hK; have HFR := hE0 (fun out h' hh => h.rd.freed (i := i) (out := out) hi h' hh); have HK := hE0 hK; have HF := hE0 hF; have H0 := hE0 h; clear h hF hh hK hbk hpx hat hd hu hi hg; go_enter Tryz.func26, Tryz.ntmps26
  go_wp2_with fail
  refine HF.out.mono ?_; rintro e w2 ⟨rfl, hb⟩; obtain ⟨w3, hw3⟩ := nmE (w2.alloc (.cells #[.int .i64 (xo : Int), .int .i64 (xs : Int), .bool true] 81)); obtain ⟨wd, hwd⟩ := nmE w3.drew; have n3 : wd.heap[w2.heap.size]? = some (.cells #[.int .i64 (xo : Int), .int .i64 (xs : Int), .bool true] 81 (0, 0)) := by rw [<- hwd, <- hw3]; exact heap_alloc_new w2 _
  have hbd : Below w.heap.size w wd := by rw [<- hwd, <- hw3]; exact (hb.alloc hb.size _).drew
  have k0 := (H0.out.below hbd).c0; have hlq := (H0.out.below hbd).lt; obtain ⟨⟨d0, d1, d2⟩, _⟩ := aad n3; have hlt3 := aaa n3; have HK3 := hE0 (HK.out wd hbd); have HBD := hE0 hbd; have HW3 := hE0 hw3; have HWD := hE0 hwd; clear hb HF hw3 n3 hwd hbd HK; go_wp2_with (first | (rw [HW3.out]) | fail)
  refine aaf wd.heap.size [] [0, 1, 2, 3, 4, 5] [6, 7] (by kernel_rfl) (by kernel_rfl) (by kernel_rfl) (fun _ _ _ _ _ h => h) ?_; rw [HWD.out]; have q0 := tfE k0 hlq; have q1 := tfE d0 hlt3; refine aap (l := ?la2) (t := ?tl2) ?hla2 ?htl2 ?_
  case hla2 => simp only [pick, lE1, lE2, lE3]; rfl
  case htl2 => simp only [pick, lE1, lE2, lE3]; rfl
  repeat (go_big_quiet_step (fail))
  refine wpQuiet_nil ?_; clear q0 q1 k0 d0 d1 d2; go_wp2_with fail
  refine HK3.out.mono ?_; rintro e w4 ⟨rfl, out, hbe, hr, hh⟩; have HT : Hid (PTurn g base cap A (H.give i) w w4) := ⟨out, hbe.after HBD.out, HFR.out out hr hh⟩; clear hbe hr hh HK3 HFR; go_wp2
  go_ret
  exact ⟨rfl, HT.out⟩
end
section
theorem aiU (a : Nat) (ha : a < 18446744073709551616) : bits .and .u64 (a : Int) 4294967295 = ((a % 4294967296 : Nat) : Int) := by
 have h := bits_and_u64_nat a 4294967295 ha (by omega); rw [show a &&& 4294967295 = a % 4294967296 from Nat.and_two_pow_sub_one_eq_mod a 32] at h; exact h
theorem ao7 (a : Nat) : (a : Int) / 4294967296 = ((a / 4294967296 : Nat) : Int) := by omega
theorem ao8 (a b : Nat) : (a : Int) * (b : Int) = ((a * b : Nat) : Int) := (Int.natCast_mul a b).symm
theorem ao9 (a b : Nat) : (a : Int) + (b : Int) = ((a + b : Nat) : Int) := (Int.natCast_add a b).symm
theorem aeG (a : Nat) (ha : a < 18446744073709551616) : IntKind.u64.wrap (a : Int) = (a : Int) := by rw [IntKind.wrap_u64]; omega
theorem apa (a : Nat) : IntKind.u64.wrap (a : Int) = ((a % 18446744073709551616 : Nat) : Int) := by rw [IntKind.wrap_u64]; omega
theorem alR (w : World) (x y : Nat) (hx : x < 18446744073709551616) (hy : y < 18446744073709551616) :
 Calls Tryz.prog 56 #[.int .u64 (x : Int), .int .u64 (y : Int)] w fun e w' => e = .returned (.tuple #[.int .u64 ((x * y / 18446744073709551616 : Nat) : Int), .int .u64 ((x * y % 18446744073709551616 : Nat) : Int)]) /\ w = w' := by
 obtain ⟨bd, bt, bw, hhi⟩ := Lib.mul64_hi x y hx hy; have ba := Lib.half_mul_le (a := x / 4294967296) (b := y / 4294967296) (by omega) (by omega); have bb := Lib.half_mul_le (a := x / 4294967296) (b := y % 4294967296) (by omega) (by omega); have bc := Lib.half_mul_le (a := x % 4294967296) (b := y / 4294967296) (by omega) (by omega); have ba' : x / 4294967296 * (y / 4294967296) < 18446744073709551616 := by omega
 have bb' : x / 4294967296 * (y % 4294967296) < 18446744073709551616 := by omega
 have bc' : x % 4294967296 * (y / 4294967296) < 18446744073709551616 := by omega
 have bh1 : x / 4294967296 * (y / 4294967296) + (x / 4294967296 * (y % 4294967296) + x % 4294967296 * (y % 4294967296) / 4294967296) / 4294967296 < 18446744073709551616 := by omega
 have bh : x / 4294967296 * (y / 4294967296) + (x / 4294967296 * (y % 4294967296) + x % 4294967296 * (y % 4294967296) / 4294967296) / 4294967296 + ((x / 4294967296 * (y % 4294967296) + x % 4294967296 * (y % 4294967296) / 4294967296) % 4294967296 + x % 4294967296 * (y / 4294967296)) / 4294967296 < 18446744073709551616 := by omega
 go_enter Tryz.func56, Tryz.ntmps56
 go_wp2
 simp only [aiU x hx, aiU y hy, ao7, ao8, ao9, aeG _ bd, aeG _ bb', aeG _ bt, aiU _ bt, aeG _ bc', aeG _ bw, aeG _ ba', aeG _ bh1, aeG _ bh, apa (x * y)]; rw [hhi]; go_ret2
 exact ⟨rfl, rfl⟩
end
section
variable {w w' : World} {q g base cap c : Nat} {A : Option Addr} {bs out : List UInt8} {H H' : Hp}
theorem aeH (h : PH w q g base cap A c bs H) (n m : Nat) (hn : n < 18446744073709551616) (hm : m < 18446744073709551616) :
 Calls Tryz.prog 25 #[.pointer (some ⟨q, 0, none⟩), .int .u64 (n : Int), .int .u64 (m : Int)] w fun e w' => agX g base cap A (H.calloc n m) w e w' := by
 have hM := alR w n m hn hm; obtain ⟨k, hk⟩ := nmE (n * m); obtain ⟨z, hz⟩ := nmE (k / 18446744073709551616); obtain ⟨l, hl⟩ := nmE (k % 18446744073709551616); rw [hk, hz, hl] at hM; have HM := hE0 hM; by_cases hbig : 18446744073709551615 < k
 · have e : H.calloc n m = ((0, 5), H) := by unfold Hp.calloc; rw [hk, if_pos hbig]
   have hz0 : z ≠ 0 := by omega
   have g1 : ((z : Int) != 0) = true := by rw [bne_iff_ne]; omega
   have HE := hE0 e; have HT := hE0 (h.stay (Below.refl _ _)); clear h hM hk hz hl e; go_enter Tryz.func25, Tryz.ntmps25
   go_wp2_with fail
   refine HM.out.mono ?_; rintro e w2 ⟨rfl, rfl⟩; go_wp2
   go_ret2
   rw [HE.out]; exact ⟨rfl, HT.out⟩
 · have e : H.calloc n m = H.get k 0 := by unfold Hp.calloc; rw [hk, if_neg hbig]
   obtain rfl : z = 0 := by omega
   obtain rfl : l = k := by omega
   have HE := hE0 e; have HK : Hid (Calls Tryz.prog 51 #[.pointer (some ⟨q, 0, none⟩), .int .u64 (l : Int), .int .u8 0] w fun e w' => agX g base cap A (H.get l 0) w e w') := ahR h l (by omega) 0; clear h hM hk hz hl e; go_enter Tryz.func25, Tryz.ntmps25
   go_wp2_with fail
   refine HM.out.mono ?_; rintro e w2 ⟨rfl, rfl⟩; go_wp2_with fail
   refine HK.out.mono ?_; rintro e w2 ⟨rfl, ht⟩; have HT := hE0 ht; clear ht HK HM; go_wp2
   go_ret2
   rw [HE.out]; exact ⟨rfl, HT.out⟩
def Hp.usableP (H : Hp) (p : Nat) : Nat × Int := match H.handleB p with
 | none => (0, 4)
 | some i => ((H.ds.getD i aaR).2.length, 0)
theorem aeI (h : PH w q g base cap A c bs H) (p : Nat) (hp : p < 18446744073709551616) :
 Calls Tryz.prog 23 #[.pointer (some ⟨q, 0, none⟩), .int .u64 (p : Int)] w fun e w' => e = .returned (.tuple #[.int .u64 ((H.usableP p).1 : Int), ah3 (H.usableP p).2]) /\ Below w.heap.size w w' := by
 unfold Hp.usableP; have hF := acK h p hp
 cases hh : H.handleB p with
 | none =>
  rw [hh] at hF; dsimp only [bkV, aaz, Option.map, Option.isSome] at hF; have HF := hE0 hF; clear h hF hh; go_enter Tryz.func23, Tryz.ntmps23
  go_wp2_with fail
  refine HF.out.mono ?_; rintro e w2 ⟨rfl, hb⟩; have HT := hE0 (hb.alloc hb.size (.cells #[.int .i64 0, .int .i64 0, .bool false] 81)); clear hb HF; go_wp2
  go_ret2
  exact ⟨rfl, HT.out⟩
 | some i =>
  obtain ⟨xo, xs, hbk, hpx, h184, h32, hle, hi, hat, hd, h16, hu⟩ := h.blk hh; rw [hh] at hF; dsimp only [Option.map] at hF; rw [hbk] at hF; dsimp only [bkV, Bk.val, aaz, Option.isSome] at hF ⊢; have HUS := hE0 (fun W => ab0 W (xo : Int) xs true (by omega) h16); obtain ⟨L, hL⟩ := nmE ((H.ds.getD i aaR).2.length); rw [hL] at hd ⊢; have eL : xs - 16 = L := by omega
  rw [eL] at HUS; have hL14 : L <= 16384 := by omega
  have HF := hE0 hF; clear h hF hh hbk hpx hat hd hu hi hL eL; go_enter Tryz.func23, Tryz.ntmps23
  go_wp2_with fail
  refine HF.out.mono ?_; rintro e w2 ⟨rfl, hb⟩; obtain ⟨w3, hw3⟩ := nmE (w2.alloc (.cells #[.int .i64 (xo : Int), .int .i64 (xs : Int), .bool true] 81)); have n3 := anE hw3; have HB3 : Hid (Below w.heap.size w w3) := (show Below _ _ _ by rw [<- hw3]; exact hb.alloc hb.size _); obtain ⟨⟨d0, d1, d2⟩, _⟩ := aad n3; have hlt3 := aaa n3; have HW3 := hE0 hw3; clear hb HF hw3 n3; go_wp2_with (first | (rw [HW3.out]) | fail)
  refine (HUS.out w3).mono ?_; rintro e w4 ⟨rfl, hb4⟩; have HB4 := hE0 (HB3.out.trans (hb4.mono HB3.out.size)); clear hb4 d0 d1 d2 HB3; go_wp2
  go_ret2
  exact ⟨rfl, HB4.out⟩
end
section
variable {w : World}
theorem afo (w : World) : Calls Tryz.prog 33 #[.nilIface] w fun e w' => e = .returned (.int .i64 0) /\ Below w.heap.size w w' := by
 have HA := hE0 (fun t W => apV t W); go_enter Tryz.func33, Tryz.ntmps33
 go_wp2_with fail
 refine (HA.out _ _).mono ?_; rintro e w2 ⟨rfl, rfl⟩; go_wp2
 go_ret
 exact ⟨rfl, (Below.refl _ _).alloc (Nat.le_refl _) _⟩
theorem ET.lt (h : ET w) : 0 < w.heap.size := by
 unfold ET at h; rcases Nat.eq_zero_or_pos w.heap.size with h0 | h1
 · simp [World.cell?, h0] at h
 · exact h1
theorem ET.keep {w' : World} (h : ET w) (hb : w'.heap[0]? = w.heap[0]?) : ET w' := (World.cell?_of_block (a := ⟨0, 0, none⟩) hb).trans h
theorem ET.below {w' : World} (h : ET w) (hb : Below w.heap.size w w') : ET w' := h.keep (hb.block 0 h.lt)
theorem afp (h : ET w) (k : Int) : Calls Tryz.prog 33 #[.iface 67 (.int .i64 k)] w fun e w' => e = .returned (.int .i64 k) /\ Below w.heap.size w w' := by
 obtain ⟨w1, hw1⟩ := nmE (w.alloc (.cells #[.int .i64 0] 67)); have hb1 := abE hw1; have n1 := anE hw1; have c1 : w1.cell? ⟨w.heap.size, 0, none⟩ = some (.int .i64 0) := by rw [cell_of_row w1 w.heap.size 0 _ _ (0, 0) n1]; rfl
 have f1 := frozen_of_row w1 w.heap.size 0 _ _ n1; have HA := hE0 (apY k ⟨w.heap.size, 0, none⟩ (.int .i64 0) w1 (h.below hb1) c1 f1); have HN1 := hE0 n1; have HW1 := hE0 hw1; have HB1 := hE0 hb1; clear h hb1 n1 c1 f1 hw1; go_enter Tryz.func33, Tryz.ntmps33
 go_wp2_with (first | (rw [HW1.out]) | fail)
 refine HA.out.mono ?_; rintro e w2 ⟨rfl, hw2⟩; have hs1 := HB1.out.size; have hlt1 := aab HN1.out; obtain ⟨wa, hwa⟩ := nmE (((((w1.alloc (.cells #[.pointer (some ⟨w.heap.size, 0, none⟩)] 106)).alloc (.cells #[.pointer (some ⟨1, 106, none⟩), .pointer (some ⟨w1.heap.size, 0, none⟩), .int .u64 150] 134)).alloc (.cells #[.pointer (some ⟨1, 106, none⟩), .pointer (some ⟨w1.heap.size, 0, none⟩), .int .u64 150] 134)).alloc (.cells #[.int .i64 k] 67))); have hba : Below w1.heap.size w1 wa := by
  rw [<- hwa]; have b1 := (Below.refl w1.heap.size w1).alloc (Nat.le_refl _) (.cells #[.pointer (some ⟨w.heap.size, 0, none⟩)] 106); have b2 := b1.alloc b1.size (.cells #[.pointer (some ⟨1, 106, none⟩), .pointer (some ⟨w1.heap.size, 0, none⟩), .int .u64 150] 134); have b3 := b2.alloc b2.size (.cells #[.pointer (some ⟨1, 106, none⟩), .pointer (some ⟨w1.heap.size, 0, none⟩), .int .u64 150] 134); exact b3.alloc b3.size _
 rw [hwa] at hw2; have na := (hba.block _ hlt1).trans HN1.out; have n2 : w2.heap[w.heap.size]? = some (.cells #[.int .i64 k] 67 (0, 0)) := by rw [hw2, heap_setCell_same wa w.heap.size 0 _ _ (.int .i64 k) na]; rfl
 have c2 : w2.cell? ⟨w.heap.size, 0, none⟩ = some (.int .i64 k) := by rw [cell_of_row w2 w.heap.size 0 _ _ (0, 0) n2]; rfl
 have HB2 : Hid (Below w.heap.size w w2) := (show Below _ _ _ by rw [hw2]; exact (HB1.out.trans (hba.mono hs1)).setCell (Nat.le_refl _) _); have hlt2 := aab n2; clear hw2 hwa hba na n2 hs1 hlt1 HA HN1 HW1 HB1; go_wp2
 go_ret
 exact ⟨rfl, HB2.out⟩
theorem ab1 (h : ET w) (k : Int) : Calls Tryz.prog 33 #[ah3 k] w fun e w' => e = .returned (.int .i64 k) /\ Below w.heap.size w w' := by
 unfold ah3; split
 · rename_i h0; subst h0; exact afo w
 · exact afp h k
end
section
variable {w w' : World} {q g base cap c : Nat} {A : Option Addr} {bs out : List UInt8} {H H' : Hp}
theorem Hp.Ok.one_ (h : H.Ok) : H.One := fun a b x y ha hb e => by
 have hpw := List.pairwise_iff_getElem.1 (aeq _ _ _ h.tl); have e1 : H.blks[a]'(aa5 ha) = x := by have := List.getElem?_eq_getElem (aa5 ha); rw [ha] at this; exact (Option.some.inj this).symm
 have e2 : H.blks[b]'(aa5 hb) = y := by have := List.getElem?_eq_getElem (aa5 hb); rw [hb] at this; exact (Option.some.inj this).symm
 rcases Nat.lt_trichotomy a b with h' | h' | h'
 · exact absurd (by rw [e1, e2]; exact e) (hpw a b (aa5 ha) (aa5 hb) h')
 · exact h'
 · exact absurd (by rw [e1, e2]; exact e.symm) (hpw b a (aa5 hb) (aa5 ha) h')
def alS (out : List UInt8) (o s f : Nat) (v : UInt8) : List UInt8 := if f < s - 16 then lay out (o + 8 + f) (List.replicate (s - 16 - f) v) else out
theorem RtD.rezFill (h : RtD bs H) (hc : H.cap <= 16384) {s xo xs i0 : Nat} (hs : aaG (s : Int) = true) (hat : H.At i0 ⟨xo, xs, true⟩ (H.ds.getD i0 aaR)) (he : (H.resize (xo : Int) s).1.2 = 0) (h1 : Rt out (H.resize (xo : Int) s).2) (hh : Held H bs (H.resize (xo : Int) s).2 out) (hm : agK H bs (xo : Int) (H.resize (xo : Int) s).2 out (H.resize (xo : Int) s).1.1) (v : UInt8) :
 ∃ i y, atB ((H.resize (xo : Int) s).1.1 : Int) (H.resize (xo : Int) s).2.blks = some i /\ (H.resize (xo : Int) s).2.blks[i]? = some y /\ y.off = (H.resize (xo : Int) s).1.1 /\ s <= y.size /\ y.off + y.size <= out.length /\ RtD (alS out y.off y.size (xs - 16) v) ((H.resize (xo : Int) s).2.fill i v) := by
 have hok := h.rt.ok hc h.dl; obtain ⟨i, y, j, x0, d, e1, e2, e3, e4, e5, e6, e7, e8, e9, e10, e11, e12⟩ := h.resized hok (hok.take hc hs).one_ hs he h1 hh hm v; obtain rfl : j = i0 := h.rt.one _ _ _ _ e7.1 hat.1 (by dsimp only; omega); obtain rfl : x0 = ⟨xo, xs, true⟩ := Option.some.inj (e7.1.symm.trans hat.1); dsimp only at e10; have ss := (aac _).1 hs; refine ⟨i, y, e1, e2, e3, e5, e6, ?_⟩; unfold alS; split
 · rename_i hf; have hll : (List.replicate (y.size - 16 - (xs - 16)) v).length = y.size - 16 - (xs - 16) := List.length_replicate; refine e12 _ (aef (x := y) _ _ (by omega) (by omega) (by omega)) (fun k hk => ?_); rw [agI _ _ _ _ hk]; by_cases hkd : k < d.2.length
   · rw [aiw out _ _ (by omega) _ (by omega), e11 k hkd (by omega), List.getElem?_eq_getElem hkd, List.getD_eq_getElem?_getD, List.getElem?_eq_getElem hkd]; rfl
   · have e := ahz out (y.off + 8 + (xs - 16)) (List.replicate (y.size - 16 - (xs - 16)) v) (by omega) (k - (xs - 16)) (by omega); rw [show y.off + 8 + (xs - 16) + (k - (xs - 16)) = y.off + 8 + k by omega] at e; rw [e, List.getElem?_replicate, if_pos (by omega), List.getD_eq_getElem?_getD, List.getElem?_eq_none (by omega)]; rfl
 · rename_i hf; refine e12 _ (aj1 _ _) (fun k hk => ?_); rw [agI _ _ _ _ hk, e11 k (by omega) (by omega), List.getD_eq_getElem?_getD, List.getElem?_eq_getElem (show k < d.2.length by omega)]; rfl
theorem ahS {p n : Nat} (hh : H.handleB p = none) : H.realloc p n = ((0, 4), H) := by unfold Hp.realloc; rw [hh]
theorem ahT {p n i : Nat} (hh : H.handleB p = some i) (hs : abW n = none) : H.realloc p n = ((0, 5), H) := by unfold Hp.realloc; rw [hh]; dsimp only; rw [hs]
theorem aiV {p n i s : Nat} (hh : H.handleB p = some i) (hs : abW n = some s) (he : (H.resize ((p : Int) - 8) s).1.2 ≠ 0) : H.realloc p n = ((0, (H.resize ((p : Int) - 8) s).1.2), H) := by
 unfold Hp.realloc; rw [hh]; dsimp only; rw [hs]; dsimp only; rw [if_neg he, (adY H _ s he).2.1]
theorem af6 {p n i j s : Nat} (hh : H.handleB p = some i) (hs : abW n = some s) (he : (H.resize ((p : Int) - 8) s).1.2 = 0) (hj : atB ((H.resize ((p : Int) - 8) s).1.1 : Int) (H.resize ((p : Int) - 8) s).2.blks = some j) : H.realloc p n = (((H.resize ((p : Int) - 8) s).1.1 + 8, 0), (H.resize ((p : Int) - 8) s).2.fill j 165) := by
 unfold Hp.realloc; rw [hh]; dsimp only; rw [hs]; dsimp only; rw [if_pos he, hj]
theorem alT (ho : w.heap[q]? = some (.cells #[.pointer (some ⟨g, 0, none⟩)] 69 (0, 0))) (ha : Ar w 79 g base cap A c bs) (hbase : base <= 4611686018427387904) (hl : bs.length <= 16384) (o s f p : Nat) (v : UInt8) {u : Bool} (hg : abt bs (o : Int) = some ⟨o, s, u⟩) (hs : 16 <= s) (hos : o + s <= bs.length) (hp : o + 8 = p) :
 Calls Tryz.prog 60 #[.pointer (some ⟨q, 0, none⟩), .int .i64 (o : Int), .int .u64 (f : Int), .int .u8 (v.toNat : Int)] w fun e w' => e = .returned (.int .u64 (p : Int)) /\ Became 79 g base cap A (alS bs o s f v) w w' := by
 unfold alS; by_cases hf : f < s - 16
 · rw [if_pos hf, hp]; exact ahQ ho ha hbase hl o s f p v hg hs hos hf hp
 · rw [if_neg hf]; refine (anq ho ha hbase hl o s f p v hg hs hos (by omega) hp).mono ?_; rintro e w2 ⟨rfl, hb⟩; exact ⟨rfl, abF ha hb⟩
theorem agY (h : PH w q g base cap A c bs H) (p n : Nat) (hp : p < 18446744073709551616) (hn : n < 18446744073709551616) :
 Calls Tryz.prog 30 #[.pointer (some ⟨q, 0, none⟩), .int .u64 (p : Int), .int .u64 (n : Int)] w fun e w' => agX g base cap A (H.realloc p n) w e w' := by
 have hF := acK h p hp; have HND := hE0 (fun W => apw W n hn)
 cases hh : H.handleB p with
 | none =>
  rw [hh] at hF; dsimp only [bkV, aaz, Option.map, Option.isSome] at hF; have HF := hE0 hF; have HE := hE0 (ahS (n := n) hh); have H0 := hE0 h; clear h hF hh HND; go_enter Tryz.func30, Tryz.ntmps30
  go_wp2_with fail
  refine HF.out.mono ?_; rintro e w2 ⟨rfl, hb⟩; have HT := hE0 (H0.out.stay (hb.alloc hb.size (.cells #[.int .i64 0, .int .i64 0, .bool false] 81))); clear hb HF H0; go_wp2
  go_ret2
  rw [HE.out]; exact ⟨rfl, HT.out⟩
 | some i =>
  obtain ⟨xo, xs, hbk, hpx, h184, h32, hle, hi, hat, hd, h16, hu⟩ := h.blk hh; have hl := h.len; rw [hh] at hF; dsimp only [Option.map] at hF; rw [hbk] at hF; dsimp only [bkV, Bk.val, aaz, Option.isSome] at hF; have HF := hE0 hF
  cases hs : abW n with
  | none =>
   have HE := hE0 (ahT hh hs); rw [hs] at HND; dsimp only [ad6] at HND; have H0 := hE0 h; clear h hF hh hbk hpx hat hd hu hi hs; go_enter Tryz.func30, Tryz.ntmps30
   go_wp2_with fail
   refine HF.out.mono ?_; rintro e w2 ⟨rfl, hb⟩; obtain ⟨w3, hw3⟩ := nmE (w2.alloc (.cells #[.int .i64 (xo : Int), .int .i64 (xs : Int), .bool true] 81)); have HB3 : Hid (Below w.heap.size w w3) := (show Below _ _ _ by rw [<- hw3]; exact hb.alloc hb.size _); have HW3 := hE0 hw3; clear hb HF hw3; go_wp2_with (first | (rw [HW3.out]) | fail)
   refine (HND.out w3).mono ?_; rintro e w4 ⟨rfl, hb4⟩; have HT := hE0 (H0.out.stay (HB3.out.trans (hb4.mono HB3.out.size))); clear hb4 HB3 H0 HND; go_wp2
   go_ret2
   rw [HE.out]; exact ⟨rfl, HT.out⟩
  | some s =>
   have hsz := ach hs; have hss := (aac _).1 hsz; rw [hs] at HND; dsimp only [ad6] at HND; have hp8 : (p : Int) - 8 = (xo : Int) := by omega
   have hK : ∀ w1, Below w.heap.size w w1 -> Calls Tryz.prog 59 #[.pointer (some ⟨g, 0, none⟩), .int .i64 (xo : Int), .int .i64 (s : Int)] w1 fun e w' => RezTold g base cap A bs H (xo : Int) (H.resize (xo : Int) s) w1 e w' := fun w1 hb => by
    have := (ao4 w1 g base cap c A bs H (xo : Int) (s : Int) (h.ar.below hb) h.b62 h.c16 h.cp h.rd.rt ⟨by omega, by omega⟩ ⟨by omega, by omega⟩).2 hsz; rw [Int.toNat_natCast] at this; exact this
   by_cases herr : (H.resize (xo : Int) s).1.2 = 0
   · have hRF := fun out h1 hh2 hm => h.rd.rezFill (out := out) (by rw [h.cp]; exact h.c16) hsz hat herr h1 hh2 hm 165; have hRO := fun j hj => af6 (j := j) hh hs (by rw [hp8]; exact herr) (by rw [hp8]; exact hj); rw [hp8] at hRO; have hcap2 : (H.resize (xo : Int) s).2.cap = cap := resize_cap.trans h.cp; have hK2 : ∀ w1, Below w.heap.size w w1 -> Calls Tryz.prog 59 #[.pointer (some ⟨g, 0, none⟩), .int .i64 (xo : Int), .int .i64 (s : Int)] w1 fun e w' => e = .returned (.tuple #[.int .i64 ((H.resize (xo : Int) s).1.1 : Int), .nilIface]) /\ ∃ out, Became 79 g base cap A out w1 w' /\ Rt out (H.resize (xo : Int) s).2 /\ Held H bs (H.resize (xo : Int) s).2 out /\ agK H bs (xo : Int) (H.resize (xo : Int) s).2 out (H.resize (xo : Int) s).1.1 := fun w1 hb => (hK w1 hb).mono fun e w2 hr => hr.1 herr; obtain ⟨r, hr⟩ := nmE (H.resize (xo : Int) s); rw [hr] at hRF hRO hK2 hcap2; obtain ⟨⟨ro, re⟩, H2⟩ := r; dsimp only at hRF hRO hK2 hcap2; have HRF := hE0 hRF; have HRO := hE0 hRO; have HC2 := hE0 hcap2; have HK := hE0 hK2; have H0 := hE0 h; have HUS := hE0 (fun W => ab0 W (xo : Int) xs true (by omega) h16); obtain ⟨f, hf⟩ := nmE (xs - 16); rw [hf] at HUS HRF; have hf14 : f <= 16384 := by omega
     clear h hF hh hbk hpx hat hd hu hi hs hRF hRO hcap2 hK hK2 herr hr hp8 hsz hf; go_enter Tryz.func30, Tryz.ntmps30
     go_wp2_with fail
     refine HF.out.mono ?_; rintro e w2 ⟨rfl, hb⟩; obtain ⟨w3, hw3⟩ := nmE (w2.alloc (.cells #[.int .i64 (xo : Int), .int .i64 (xs : Int), .bool true] 81)); have n3 := anE hw3; have HB3 : Hid (Below w.heap.size w w3) := (show Below _ _ _ by rw [<- hw3]; exact hb.alloc hb.size _); have HW3 := hE0 hw3; have HN3 := hE0 n3; clear hb HF hw3 n3; go_wp2_with (first | (rw [HW3.out]) | fail)
     refine (HND.out w3).mono ?_; rintro e w4 ⟨rfl, hb4⟩; have hb4' := HB3.out.trans (hb4.mono HB3.out.size); obtain ⟨wd, hwd⟩ := nmE w4.drew; have hbd : Below w.heap.size w wd := by rw [<- hwd]; exact hb4'.drew
     have n4 : wd.heap[w2.heap.size]? = some (.cells #[.int .i64 (xo : Int), .int .i64 (xs : Int), .bool true] 81 (0, 0)) := by rw [<- hwd]; exact Loc.below hb4 _ _ HN3.out
     have hp4 := H0.out.below hbd; have k0 := hp4.c0; have hlq := hp4.lt; have hnq := hp4.ap; have hnb := agO hp4.ar n4; obtain ⟨⟨d0, d1, d2⟩, _⟩ := aad n4; have hlt4 := aaa n4; have HK4 := hE0 (HK.out wd hbd); have HBD := hE0 hbd; have HWD := hE0 hwd; have HN4 := hE0 n4; have HP4 := hE0 hp4; have HNB := hE0 hnb; have HNQ := hE0 hnq; clear hb4 hb4' hwd hbd hp4 HK HND HN3 HW3 HB3 n4 hnb hnq; go_wp2_with fail
     refine abv (abg g A) [([0, 1, 2, 3, 4, 5, 6], 7)] [8, 9, 10, 11, 12] [] (by kernel_rfl) (by kernel_rfl) (by kernel_rfl) (fun _ _ _ _ _ h => h) ?_; rw [HWD.out]; have q0 : ∀ z : LaterS (abg g A) wd, z.val.cell? ⟨q, 0, none⟩ = some (.pointer (some ⟨g, 0, none⟩)) := fun z => z.ext.cell k0 HNQ.out; have q1 : ∀ z : LaterS (abg g A) wd, z.val.cell? ⟨w2.heap.size, 0, none⟩ = some (.int .i64 (xo : Int)) := fun z => z.ext.cell d0 HNB.out; refine ab4 (l := ?seg1) ?hseg1 ?_
     case hseg1 => simp only [pick, lE1, lE2, lE3]; rfl
     repeat (go_big_quiet_step (fail))
     refine wpQuiet_nil ?_; clear q0 q1 k0 d0 d1 d2; refine acj (vs := #[.pointer (some ⟨g, 0, none⟩), .int .i64 (xo : Int), .int .i64 (s : Int)]) Tryz.call59 rfl rfl rfl (R := fun r w' => r = .tuple #[.int .i64 (ro : Int), .nilIface] /\ ∃ out, Became 79 g base cap A out wd w' /\ Rt out H2 /\ Held H bs H2 out /\ agK H bs (xo : Int) H2 out ro) (HK4.out.mono ?_) ?_
     · rintro e w' ⟨rfl, out, hB, hR⟩; have hB' := hB; obtain ⟨_, _, _, ht, _⟩ := hB'; exact ⟨_, rfl, ht, rfl, out, hB, hR⟩
     rintro r w5 _ ⟨rfl, out, hbe, hr1, hh1, hm1⟩; obtain ⟨j, y, hj, hy, hyo, hys, hyl, hrd⟩ := HRF.out out hr1 hh1 hm1; obtain ⟨A5, c5, a5, t5, m5⟩ := hbe; have n5 := (t5.block _ hlt4 HNB.out).trans HN4.out; have ho5 := (t5.block q HP4.out.lt HNQ.out).trans HP4.out.obj; have hout : out.length <= 16384 := (hr1.bound (by rw [HC2.out]; exact H0.out.c16)).1; have hgb := an2 hr1 (by rw [HC2.out]; exact H0.out.c16) (List.mem_of_getElem? hy); have HTR := hE0 (fun w6 (hb6 : Below w5.heap.size w5 w6) (b4 : List UInt8) w7 (k : Became 79 g base cap A5 b4 w6 w7) => (Became.trans a5 t5 m5 (k.after hb6)).after HBD.out); obtain ⟨yo, ys, yu⟩ := y; dsimp only at hyo hys hyl hrd hgb; subst hyo; have hyo14 : yo <= 16384 := by omega
     obtain ⟨p2, hp2⟩ := nmE (yo + 8); have HFI := hE0 (fun w6 (hb6 : Below w5.heap.size w5 w6) => alT (w := w6) ((hb6.block q (aab ho5)).trans ho5) (a5.below hb6) H0.out.b62 hout yo ys f p2 165 hgb (by omega) (by omega) hp2); have HRD := hE0 hrd; have hgi := HRO.out j hj; rw [hp2] at hgi; have HGI := hE0 hgi; obtain ⟨⟨d0, d1, d2⟩, _⟩ := aad n5; have hlt5 := aaa n5; refine ⟨abg g A, fun _ _ h => h, ?_⟩; refine ac4 (l := ?la4) (t := []) ?hla4 ?htl4 ?_
     case hla4 => simp only [pick, lE1, lE2, lE3]; rfl
     case htl4 => rfl
     simp only [Act.put, lE4, lE5, lE6]; repeat (go_big_quiet_step (fail))
     refine wpQuiet_nil ?_; clear hgi hp2 hr1 hh1 hm1 hj hy hrd hgb t5 m5 a5 n5 ho5 HRF HRO HK4 HN4 HP4; go_wp2_with fail
     refine (HUS.out w5).mono ?_; rintro e w6 ⟨rfl, hb6⟩; have HF6 : Hid (Calls Tryz.prog 60 #[.pointer (some ⟨q, 0, none⟩), .int .i64 (yo : Int), .int .u64 (f : Int), .int .u8 165] w6 fun e w' => e = .returned (.int .u64 (p2 : Int)) /\ Became 79 g base cap A5 (alS out yo ys f 165) w6 w') := HFI.out w6 hb6; have HT6 := hE0 (HTR.out w6 hb6); clear hb6 d0 d1 d2 hlt5 HFI HTR; go_wp2_with fail
     refine HF6.out.mono ?_; rintro e w7 ⟨rfl, hb7⟩; have HT := hE0 (HT6.out _ w7 hb7); clear hb7 HF6 HT6; go_wp2
     go_ret2
     rw [HGI.out]; exact ⟨rfl, _, HT.out, HRD.out⟩
   · have hRB := aiV hh hs (by rw [hp8]; exact herr); rw [hp8] at hRB; have hz := (adY H _ s herr).2.2; have hK2 : ∀ w1, Below w.heap.size w w1 -> Calls Tryz.prog 59 #[.pointer (some ⟨g, 0, none⟩), .int .i64 (xo : Int), .int .i64 (s : Int)] w1 fun e w' => e = .returned (.tuple #[.int .i64 0, .iface 67 (.int .i64 (H.resize (xo : Int) s).1.2)]) /\ Below w1.heap.size w1 w' := fun w1 hb => (hK w1 hb).mono fun e w2 hr => hr.2 herr; obtain ⟨ek, hek⟩ := nmE ((H.resize (xo : Int) s).1.2); rw [hek] at hRB hz hK2; have HRB := hE0 hRB; have HK := hE0 hK2; have H0 := hE0 h; have HEN : Hid (ah3 ek = .iface 67 (.int .i64 ek)) := (show ah3 ek = _ by rcases hz with rfl | rfl <;> rfl); clear h hF hh hbk hpx hat hd hu hi hs hK hK2 herr hek hp8 hsz hRB hz; go_enter Tryz.func30, Tryz.ntmps30
     go_wp2_with fail
     refine HF.out.mono ?_; rintro e w2 ⟨rfl, hb⟩; obtain ⟨w3, hw3⟩ := nmE (w2.alloc (.cells #[.int .i64 (xo : Int), .int .i64 (xs : Int), .bool true] 81)); have n3 := anE hw3; have HB3 : Hid (Below w.heap.size w w3) := (show Below _ _ _ by rw [<- hw3]; exact hb.alloc hb.size _); have HW3 := hE0 hw3; have HN3 := hE0 n3; clear hb HF hw3 n3; go_wp2_with (first | (rw [HW3.out]) | fail)
     refine (HND.out w3).mono ?_; rintro e w4 ⟨rfl, hb4⟩; have hb4' := HB3.out.trans (hb4.mono HB3.out.size); obtain ⟨wd, hwd⟩ := nmE w4.drew; have hbd : Below w.heap.size w wd := by rw [<- hwd]; exact hb4'.drew
     have n4 : wd.heap[w2.heap.size]? = some (.cells #[.int .i64 (xo : Int), .int .i64 (xs : Int), .bool true] 81 (0, 0)) := by rw [<- hwd]; exact Loc.below hb4 _ _ HN3.out
     have hp4 := H0.out.below hbd; have k0 := hp4.c0; have hnq := hp4.ap; have hnb := agO hp4.ar n4; obtain ⟨⟨d0, d1, d2⟩, _⟩ := aad n4; have HK4 := hE0 (HK.out wd hbd); have HBD := hE0 hbd; have HWD := hE0 hwd; have HNB := hE0 hnb; have HNQ := hE0 hnq; clear hb4 hb4' hwd hbd hp4 HK HND HN3 HW3 HB3 n4 hnb hnq; go_wp2_with fail
     refine abv (abg g A) [([0, 1, 2, 3, 4, 5, 6], 7)] [8, 9, 10, 11, 12] [] (by kernel_rfl) (by kernel_rfl) (by kernel_rfl) (fun _ _ _ _ _ h => h) ?_; rw [HWD.out]; have q0 : ∀ z : LaterS (abg g A) wd, z.val.cell? ⟨q, 0, none⟩ = some (.pointer (some ⟨g, 0, none⟩)) := fun z => z.ext.cell k0 HNQ.out; have q1 : ∀ z : LaterS (abg g A) wd, z.val.cell? ⟨w2.heap.size, 0, none⟩ = some (.int .i64 (xo : Int)) := fun z => z.ext.cell d0 HNB.out; refine ab4 (l := ?seg2) ?hseg2 ?_
     case hseg2 => simp only [pick, lE1, lE2, lE3]; rfl
     repeat (go_big_quiet_step (fail))
     refine wpQuiet_nil ?_; clear q0 q1 k0 d0 d1 d2; refine acj (vs := #[.pointer (some ⟨g, 0, none⟩), .int .i64 (xo : Int), .int .i64 (s : Int)]) Tryz.call59 rfl rfl rfl (R := fun r w' => r = .tuple #[.int .i64 0, .iface 67 (.int .i64 ek)] /\ Below wd.heap.size wd w') (HK4.out.mono ?_) ?_
     · rintro e w' ⟨rfl, hb⟩; exact ⟨_, rfl, Tch.of_below hb, rfl, hb⟩
     rintro r w5 _ ⟨rfl, hb5⟩; have HT := hE0 (H0.out.stay (HBD.out.trans (hb5.mono HBD.out.size))); refine ⟨abg g A, fun _ _ h => h, ?_⟩; refine ac4 (l := ?la5) (t := []) ?hla5 ?htl5 ?_
     case hla5 => simp only [pick, lE1, lE2, lE3]; rfl
     case htl5 => rfl
     simp only [Act.put, lE4, lE5, lE6]; repeat (go_big_quiet_step (fail))
     refine wpQuiet_nil ?_; clear hb5 HK4 H0; go_wp2
     go_ret2
     rw [HRB.out]; exact ⟨by rw [HEN.out]; rfl, HT.out⟩
end
def Hp.readP (H : Hp) (p a n : Nat) : List UInt8 × Int := match H.handleB p with
 | none => ([], 4)
 | some i => if (H.ds.getD i aaR).2.length < a + n then ([], 2) else (((H.ds.getD i aaR).2.drop a).take n, 0)
def Hp.writeP (H : Hp) (p a : Nat) (b : List UInt8) : Int × Hp := match H.handleB p with
 | none => (4, H)
 | some i => if (H.ds.getD i aaR).2.length < a + b.length then (2, H) else (0, H.dset i ((H.ds.getD i aaR).1, lay (H.ds.getD i aaR).2 a b))
def PBytes (r : List UInt8 × Int) (w : World) (e : Ending) (w' : World) : Prop :=
 ∃ A' c', e = .returned (.tuple #[.slice A' r.1.length c', ah3 r.2]) /\ w'.ownsRow w.heap.size 5 1 (.slice A' r.1.length c') r.1.length (r.1.map bv) /\ Below w.heap.size w w'
section
variable {w w' : World} {q g base cap c : Nat} {A : Option Addr} {bs out : List UInt8} {H H' : Hp}
theorem PBytes.none_ {k : Int} (hb : Below w.heap.size w w') : PBytes ([], k) w (.returned (.tuple #[.slice none 0 0, ah3 k])) w' := ⟨none, 0, rfl, World.ownsRow_nil _ _ _ _, hb⟩
theorem ahU {w : World} {B B' n : Nat} {t : TypeId} {v : Value} {l : List Value} (h : w.ownsRow B t 1 v n l) (hB : B' <= B) : w.ownsRow B' t 1 v n l :=
 ⟨h.1, h.2.imp id fun ⟨g', cap', cur, a, b, c⟩ => ⟨g', cap', cur, a, Nat.le_trans hB b, c⟩⟩
theorem PH.part (h : PH w q g base cap A c bs H) {i xo xs a n : Nat} (hat : H.At i ⟨xo, xs, true⟩ (H.ds.getD i aaR)) (hf : a + n <= (H.ds.getD i aaR).2.length) : (bs.drop (xo + 8 + a)).take n = ((H.ds.getD i aaR).2.drop a).take n := by
 obtain ⟨h1, h2⟩ := h.rd.ho i _ _ hat rfl; refine List.ext_getElem? fun k => ?_; by_cases hk : k < n
 · rw [List.getElem?_take_of_lt hk, List.getElem?_take_of_lt hk, List.getElem?_drop, List.getElem?_drop]; have := h2 (a + k) (by omega); dsimp only at this; rw [<- this]; congr 1; omega
 · rw [List.getElem?_eq_none (by rw [List.length_take]; omega), List.getElem?_eq_none (by rw [List.length_take]; omega)]
theorem afq (h : PH w q g base cap A c bs H) (p a n : Nat) (hp : p < 18446744073709551616) (ha : a < 18446744073709551616) (hn : n < 18446744073709551616) :
 Calls Tryz.prog 24 #[.pointer (some ⟨q, 0, none⟩), .int .u64 (p : Int), .int .u64 (a : Int), .int .u64 (n : Int)] w fun e w' => PBytes (H.readP p a n) w e w' := by
 unfold Hp.readP
 cases hh : H.handleB p with
 | none =>
  dsimp only; have HF := hE0 (afm h p a n hp hh); clear h hh; go_enter Tryz.func24, Tryz.ntmps24
  go_wp2_with fail
  refine HF.out.mono ?_; rintro e w2 ⟨rfl, hb⟩; have HT := hE0 hb; clear hb HF; go_wp2
  go_ret2
  exact PBytes.none_ HT.out
 | some i =>
  dsimp only; obtain ⟨L, hL⟩ := nmE ((H.ds.getD i aaR).2.length); by_cases hf : L < a + n
  · rw [if_pos (by omega)]; have HF := hE0 (af4 h p a n hp ha hn hh hL hf); clear h hh hL; go_enter Tryz.func24, Tryz.ntmps24
    go_wp2_with fail
    refine HF.out.mono ?_; rintro e w2 ⟨rfl, hb⟩; have HT := hE0 hb; clear hb HF; go_wp2
    go_ret2
    exact PBytes.none_ HT.out
  · rw [if_neg (by omega)]; obtain ⟨xo, xs, hbk, hpx, h184, h32, hle, hi, hat, hd, h16, hu⟩ := h.blk hh; have hl := h.len; have hpart := h.part (a := a) (n := n) hat (by omega); obtain ⟨x, hx⟩ := nmE (base + p + a); have HF := hE0 (ahP h p a n hp hn hh hL (by omega) hx); have hb62 := h.b62; obtain ⟨ys, hys⟩ := nmE (((H.ds.getD i aaR).2.drop a).take n); have HLD : ∀ W, Below w.heap.size w W -> Calls Tryz.prog 55 #[.pointer (some ⟨g, 0, none⟩), .int .u64 (x : Int), .int .u64 (n : Int)] W fun e w' => aqO ys W e w' := fun W hb => by
     have := aoe (h.ar.below hb) (by omega) x n (xo + 8 + a) (by omega) (by omega) (by omega) (by omega); rw [hpart, hys] at this; exact this
    rw [hys]; have HLD := hE0 HLD; have H0 := hE0 h; clear h hh hL hf hbk hpx hat hd hu hi hpart hys hx hl h184 h32 hle h16 hb62; go_enter Tryz.func24, Tryz.ntmps24
    go_wp2_with fail
    refine HF.out.mono ?_; rintro e w2 ⟨rfl, hb⟩; have k0 := (H0.out.below hb).c0; have hlq := (H0.out.below hb).lt; have HL2 := hE0 (HLD.out w2 hb); have HB := hE0 hb; clear hb HF H0 HLD; go_wp2_with fail
    refine HL2.out.mono ?_; rintro e w3 ⟨A', c', rfl, ho, hb3⟩; have HT : Hid (PBytes (ys, 0) w (.returned (.tuple #[.slice A' ys.length c', ah3 0])) w3) := ⟨A', c', rfl, ahU ho HB.out.size, HB.out.trans (hb3.mono HB.out.size)⟩; clear ho hb3 HL2 HB k0; go_wp2
    go_ret2
    exact HT.out
theorem ake (h : PH w q g base cap A c bs H) (p a : Nat) (b : List UInt8) (B : Option Addr) (k : Nat) (hr : Rd w w.heap.size B b.length b) (hp : p < 18446744073709551616) (ha : a < 18446744073709551616) (hbl : b.length <= 1000000) :
 Calls Tryz.prog 31 #[.pointer (some ⟨q, 0, none⟩), .int .u64 (p : Int), .int .u64 (a : Int), .slice B b.length k] w fun e w' => e = .returned (ah3 (H.writeP p a b).1) /\ PTurn g base cap A (H.writeP p a b).2 w w' := by
 unfold Hp.writeP
 cases hh : H.handleB p with
 | none =>
  dsimp only; have hF := afm h p a b.length hp hh; obtain ⟨n, hn⟩ := nmE b.length; rw [hn] at hF hbl ⊢; have HF := hE0 hF; have H0 := hE0 h; clear h hh hr hF; go_enter Tryz.func31, Tryz.ntmps31
  go_wp2_with fail
  refine HF.out.mono ?_; rintro e w2 ⟨rfl, hb⟩; have HT := hE0 (H0.out.stay hb); clear hb HF H0; go_wp2
  go_ret
  exact ⟨rfl, HT.out⟩
 | some i =>
  dsimp only; obtain ⟨L, hL⟩ := nmE ((H.ds.getD i aaR).2.length); by_cases hf : L < a + b.length
  · rw [if_pos (by omega)]; have hF := af4 h p a b.length hp ha (by omega) hh hL hf; obtain ⟨n, hn⟩ := nmE b.length; rw [hn] at hF hbl ⊢; have HF := hE0 hF; have H0 := hE0 h; clear h hh hr hF hL; go_enter Tryz.func31, Tryz.ntmps31
    go_wp2_with fail
    refine HF.out.mono ?_; rintro e w2 ⟨rfl, hb⟩; have HT := hE0 (H0.out.stay hb); clear hb HF H0; go_wp2
    go_ret
    exact ⟨rfl, HT.out⟩
  · rw [if_neg (by omega)]; obtain ⟨xo, xs, hbk, hpx, h184, h32, hle, hi, hat, hd, h16, hu⟩ := h.blk hh; have hl := h.len; obtain ⟨x, hx⟩ := nmE (base + p + a); have hF := ahP h p a b.length hp (by omega) hh hL (by omega) hx; have hb62 := h.b62; have HWR := hE0 (h.rd.wrote hat rfl (H.ds.getD i aaR).1 a b (by omega)); have HST : ∀ W, Below w.heap.size w W -> Calls Tryz.prog 61 #[.pointer (some ⟨g, 0, none⟩), .int .u64 (x : Int), .slice B b.length k] W fun e w' => e = .returned .nilIface /\ Became 79 g base cap A (lay bs (xo + 8 + a) b) W w' := fun W hb =>
     ai7 (h.ar.below hb) (by omega) x (xo + 8 + a) B k b w.heap.size (hr.below hb) (by omega) (by omega) (by omega) (by omega)
    obtain ⟨n, hn⟩ := nmE b.length; rw [hn] at hF hbl HST ⊢; have HST := hE0 HST; have HF := hE0 hF; have H0 := hE0 h; clear h hh hL hf hbk hpx hat hd hu hi hx hl h184 h32 hle h16 hb62 hr hF hn; go_enter Tryz.func31, Tryz.ntmps31
    go_wp2_with fail
    refine HF.out.mono ?_; rintro e w2 ⟨rfl, hb⟩; have k0 := (H0.out.below hb).c0; have hlq := (H0.out.below hb).lt; have HL2 := hE0 (HST.out w2 hb); have HB := hE0 hb; clear hb HF H0 HST; go_wp2_with fail
    refine HL2.out.mono ?_; rintro e w3 ⟨rfl, hbe⟩; have HT : Hid (PTurn g base cap A (H.dset i ((H.ds.getD i aaR).1, lay (H.ds.getD i aaR).2 a b)) w w3) := ⟨_, hbe.after HB.out, HWR.out⟩; clear hbe HL2 HB HWR k0; go_wp2
    go_ret
    exact ⟨rfl, HT.out⟩
end
def stV (s : St5) : Value := .agg #[.int .i64 (s.used : Int), .int .i64 (s.free : Int), .int .i64 (s.bytes : Int), .int .i64 (s.len : Int), .int .i64 (s.cap : Int)]
def afD (a b c d e : Nat) : Array Value := #[.int .i64 (a : Int), .int .i64 (b : Int), .int .i64 (c : Int), .int .i64 (d : Int), .int .i64 (e : Int)]
theorem af7 (l : List Bk) (x : Bk) : aa2 (l ++ [x]) = if x.used = true then ((aa2 l).1 + 1, (aa2 l).2.1, (aa2 l).2.2 + (x.size - 16)) else ((aa2 l).1, (aa2 l).2.1 + 1, (aa2 l).2.2) := by
 induction l with
 | nil => simp [aa2]
 | cons y r ih =>
  rw [List.cons_append]; unfold aa2; rw [ih]; by_cases hx : x.used = true <;> by_cases hy : y.used = true <;> simp [hx, hy] <;> omega
theorem aeR (l : List Bk) : (aa2 l).1 <= l.length /\ (aa2 l).2.1 <= l.length /\ (aa2 l).2.2 <= abh l := by
 induction l with
 | nil => simp [aa2, abh]
 | cons y r ih =>
  unfold aa2; rw [List.length_cons]; simp only [abh]; split <;> dsimp only <;> omega
theorem acP (l : List Bk) (j : Nat) : abh (l.take j) <= abh l := by
 have := adD (l.take j) (l.drop j); rw [List.take_append_drop] at this; omega
theorem abV {w : World} {g : Nat} {t : TypeId} {a b c d e : Value} (h : w.heap[g]? = some (.cells #[a, b, c, d, e] t (0, 0))) :
 (w.cell? ⟨g, 0, none⟩ = some a /\ w.cell? ⟨g, 1, none⟩ = some b /\ w.cell? ⟨g, 2, none⟩ = some c /\ w.cell? ⟨g, 3, none⟩ = some d /\ w.cell? ⟨g, 4, none⟩ = some e) /\
 (w.frozen? ⟨g, 0, none⟩ = false /\ w.frozen? ⟨g, 1, none⟩ = false /\ w.frozen? ⟨g, 2, none⟩ = false /\ w.frozen? ⟨g, 3, none⟩ = false /\ w.frozen? ⟨g, 4, none⟩ = false) := by
 refine ⟨⟨?_, ?_, ?_, ?_, ?_⟩, frozen_of_row w g 0 _ _ h, frozen_of_row w g 1 _ _ h, frozen_of_row w g 2 _ _ h, frozen_of_row w g 3 _ _ h, frozen_of_row w g 4 _ _ h⟩
 · rw [cell_of_row w g 0 _ _ (0, 0) h]; rfl
 · rw [cell_of_row w g 1 _ _ (0, 0) h]; rfl
 · rw [cell_of_row w g 2 _ _ (0, 0) h]; rfl
 · rw [cell_of_row w g 3 _ _ (0, 0) h]; rfl
 · rw [cell_of_row w g 4 _ _ (0, 0) h]; rfl
theorem ahV {w : World} {g : Nat} {t : TypeId} {a b c d e : Value} (h : w.heap[g]? = some (.cells #[a, b, c, d, e] t (0, 0))) (x0 x1 x2 x3 x4 : Value) :
 (((((w.setCell ⟨g, 0, none⟩ x0).setCell ⟨g, 1, none⟩ x1).setCell ⟨g, 2, none⟩ x2).setCell ⟨g, 3, none⟩ x3).setCell ⟨g, 4, none⟩ x4).heap[g]? = some (.cells #[x0, x1, x2, x3, x4] t (0, 0)) := by
 have h1 := heap_setCell_same w g 0 _ _ x0 h; have h2 := heap_setCell_same _ g 1 _ _ x1 h1; have h3 := heap_setCell_same _ g 2 _ _ x2 h2; have h4 := heap_setCell_same _ g 3 _ _ x3 h3; have h5 := heap_setCell_same _ g 4 _ _ x4 h4; rw [h5]; rfl
theorem adw (ρ : Operand -> Value) (o : Oper) (ho : o.op = .alloc 43) (w : World) :
 (execOp ρ o).run Tryz.prog w = .ok (.value (.pointer (some ⟨w.heap.size, 0, none⟩))) (w.alloc (.cells #[.int .i64 0, .int .i64 0, .int .i64 0, .int .i64 0, .int .i64 0] 43)) := by
 unfold execOp; simp only [ho]; simp [go_sem]
theorem alU {fn : Func} {R : Ending -> World -> Prop} {a : Act} {w : World} {p : Tmp} {g : Nat} {x0 x1 x2 x3 x4 : Int} (hres : fn.results = #[.cell p 43]) (hp : a.tmps.getD p undef = .pointer (some ⟨g, 0, none⟩)) (hd : a.defers = [])
 (hg : w.heap[g]? = some (.cells #[.int .i64 x0, .int .i64 x1, .int .i64 x2, .int .i64 x3, .int .i64 x4] 43 (0, 0))) (hR : R (.returned (.agg #[.int .i64 x0, .int .i64 x1, .int .i64 x2, .int .i64 x3, .int .i64 x4])) w) : bodyPost Tryz.prog fn R .ret a w := by
 refine bodyPost_ret (v := .agg #[.int .i64 x0, .int .i64 x1, .int .i64 x2, .int .i64 x3, .int .i64 x4]) ?_ hd hR; exact results_cell_row hres _ _ g _ _ _ _ hp hg rfl rfl rfl
section
variable {w w' : World} {q g base cap c : Nat} {A : Option Addr} {bs out : List UInt8} {H H' : Hp}
theorem aiW (h : PH w q g base cap A c bs H) :
 Calls Tryz.prog 32 #[.pointer (some ⟨q, 0, none⟩)] w fun e w' => e = .returned (stV H.stats) /\ Below w.heap.size w w' := by
 have hl := h.len; have hst : H.stats = ⟨(aa2 H.blks).1, (aa2 H.blks).2.1, (aa2 H.blks).2.2, bs.length, cap⟩ := by unfold Hp.stats; rw [h.rd.rt.lenE, h.cp]
 rw [hst]; have hsum : 184 + abh H.blks = bs.length := h.rd.rt.lenE; have hbd := (h.rd.rt.bound (by rw [h.cp]; exact h.c16)).2; have hwk := h.rd.rt.walk; have hc16 := h.c16; have hb62 := h.b62; have hn512 := ((h.rd.rt.ok (by rw [h.cp]; exact h.c16) h.rd.dl)).n; obtain ⟨l, hl0⟩ := nmE H.blks; rw [hl0] at hsum hbd hwk hn512 ⊢; obtain ⟨n, hn⟩ := nmE bs.length; rw [hn] at hl hsum hbd ⊢; obtain ⟨z1, hz1⟩ := nmE ((aa2 l).1); obtain ⟨z2, hz2⟩ := nmE ((aa2 l).2.1); obtain ⟨z3, hz3⟩ := nmE ((aa2 l).2.2); rw [hz1, hz2, hz3]; have HZ := hE0 (show (aa2 l).1 = z1 /\ (aa2 l).2.1 = z2 /\ (aa2 l).2.2 = z3 from ⟨hz1, hz2, hz3⟩); clear hz1 hz2 hz3; obtain ⟨w1, hw1⟩ := nmE (w.alloc (.cells #[.int .i64 0, .int .i64 0, .int .i64 0, .int .i64 0, .int .i64 0] 43)); obtain ⟨wd, hwd⟩ := nmE w1.drew; have hbd1 : Below w.heap.size w wd := by rw [<- hwd, <- hw1]; exact ((Below.refl _ _).alloc (Nat.le_refl _) _).drew
 have n1 : wd.heap[w.heap.size]? = some (.cells #[.int .i64 0, .int .i64 0, .int .i64 0, .int .i64 0, .int .i64 0] 43 (0, 0)) := by rw [<- hwd, <- hw1]; exact heap_alloc_new w _
 have h1 := h.below hbd1; have k0 := h1.c0; have hlq := h1.lt; have hLN := abX h1.ar; have hCP := agh h1.ar; rw [hn] at hLN; have HLN := hE0 hLN; have HNL := hE0 hn; have HCP := hE0 hCP; have HBD := hE0 hbd; have HB1 := hE0 hbd1; have HN1 := hE0 n1; have HW1 := hE0 hw1; have HWD := hE0 hwd; have H1 := hE0 h1; have HWK := hE0 hwk; clear h hst hbd hw1 hwd hbd1 n1 h1 hLN hCP hn hwk hl0; go_enter Tryz.func32, Tryz.ntmps32
 go_wp2_with (first | (rw [HW1.out]) | fail)
 refine Code.wp_mono (Q := fun ex a' w' => ex = .normal /\ ∃ p, wd.heap.size <= p /\ Below wd.heap.size wd w' /\ w'.heap[p]? = some (.cells (afD 0 0 0 n cap) 43 (0, 0)) /\ a' = { tmps := #[.pointer (some ⟨q, 0, none⟩), undef, .pointer (some ⟨w.heap.size, 0, none⟩), .pointer (some ⟨p, 0, none⟩), undef, undef, undef, undef, .pointer (some ⟨q, 0, none⟩), .pointer (some ⟨q, 0, none⟩), .pointer (some ⟨q, 0, none⟩), .pointer (some ⟨g, 0, none⟩), .int .i64 (n : Int), .pointer (some ⟨q, 0, none⟩), .pointer (some ⟨q, 0, none⟩), .pointer (some ⟨q, 0, none⟩), .pointer (some ⟨g, 0, none⟩), .int .i64 (cap : Int), .agg #[.int .i64 0, .int .i64 0, .int .i64 0, .int .i64 (n : Int), .int .i64 (cap : Int)], undef, undef, undef, undef, undef, undef, undef, undef, undef, undef, undef, undef, undef, undef, undef, undef, undef, undef, undef, undef, undef, undef, undef, undef, undef, undef, undef, undef, undef, undef, undef, undef, undef], defers := [] }) ?cont ?reg
 case reg =>
  refine aan wd.heap.size (.two [0, 1, 2, 3, 5, 6, 7, 8] 4 (.two [] 9 (.one [10] 11 (.fin [])) 11 (.one [] 9 (.fin [10]))) 11 (.one [] 4 (.one [] 9 (.fin [10])))) [12] (by kernel_rfl) (by kernel_rfl) (by kernel_rfl) (fun _ _ _ _ _ h => absurd h.1 (by nofun)) ?_; rw [HWD.out]; have q0 := tfE k0 hlq; refine aci (l := ?seg1) ?hseg1 ?_
  case hseg1 => simp only [pick, lE1, lE2, lE3]; rfl
  repeat (go_big_quiet_step (fail))
  refine wpQuiet_nil ?_; clear q0 k0; refine ⟨?wayA, ?wayC⟩
  case wayA =>
   refine aam (vs := #[.pointer (some ⟨g, 0, none⟩)]) Tryz.call16 rfl rfl rfl (R := fun r w' => r = .int .i64 (n : Int) /\ w' = wd) (HLN.out.mono ?_) wd.heap.size (Nat.le_refl _) ?_
   · rintro e w' ⟨rfl, rfl⟩; exact ⟨_, rfl, Below.refl _ _, rfl, rfl⟩
   rintro r w2 _ ⟨rfl, rfl⟩; refine aci (l := []) rfl (wpQuiet_nil ?_); simp only [Act.put, lE4, lE5, lE6]; refine ⟨?wayB, ?wayD⟩
   case wayB =>
    refine aam (vs := #[.pointer (some ⟨g, 0, none⟩)]) Tryz.call44 rfl rfl rfl (R := fun r w' => r = .int .i64 (cap : Int) /\ w' = w2) (HCP.out.mono ?_) w2.heap.size (Nat.le_refl _) ?_
    · rintro e w' ⟨rfl, rfl⟩; exact ⟨_, rfl, Below.refl _ _, rfl, rfl⟩
    rintro r w3 _ ⟨rfl, rfl⟩; refine aau (l := ?seg2) ?hseg2 ?_
    case hseg2 => simp only [pick, lE1, lE2, lE3]; rfl
    simp only [Act.put, lE4, lE5, lE6]; repeat (go_big_quiet_step (fail))
    refine wpQuiet_nil ?_; refine aaA (some 3) rfl rfl rfl (adw _ _ rfl w3) ((Below.refl _ _).alloc (Nat.le_refl _) _) ⟨w3.heap.size, Nat.le_refl _, ?_⟩; simp only [Act.put, lE4, lE5, lE6]; refine aaO (l := []) (t := ?tl2) rfl ?htl2 (wpQuiet_nil ?_)
    case htl2 => simp only [pick, lE1, lE2, lE3]; rfl
    go_wp2
    exact ⟨w3.heap.size, Nat.le_refl _, (Below.refl _ _).alloc (Nat.le_refl _) _, heap_alloc_new w3 _, rfl⟩
   case wayD =>
    refine aaA (some 3) rfl rfl rfl (adw _ _ rfl w2) ((Below.refl _ _).alloc (Nat.le_refl _) _) ⟨w2.heap.size, Nat.le_refl _, ?_⟩; simp only [Act.put, lE4, lE5, lE6]; obtain ⟨w3, hw3⟩ := nmE (w2.alloc (.cells #[.int .i64 0, .int .i64 0, .int .i64 0, .int .i64 0, .int .i64 0] 43)); have hb3 := abE hw3; have n3 := anE hw3; rw [hw3]; have hC3 := agh (H1.out.below hb3).ar; refine aau (l := []) rfl (wpQuiet_nil ?_); refine aam (vs := #[.pointer (some ⟨g, 0, none⟩)]) Tryz.call44 rfl rfl rfl (R := fun r w' => r = .int .i64 (cap : Int) /\ w' = w3) (hC3.mono ?_) w2.heap.size (Nat.le_refl _) ?_
    · rintro e w' ⟨rfl, rfl⟩; exact ⟨_, rfl, Below.refl _ _, rfl, rfl⟩
    rintro r w4 _ ⟨rfl, rfl⟩; refine aaO (l := ?la3) (t := ?tl3) ?hla3 ?htl3 ?_
    case hla3 => simp only [pick, lE1, lE2, lE3]; rfl
    case htl3 => simp only [pick, lE1, lE2, lE3]; rfl
    simp only [Act.put, lE4, lE5, lE6]; repeat (go_big_quiet_step (fail))
    refine wpQuiet_nil ?_; obtain ⟨⟨c0, c1, c2, c3, c4⟩, f0, f1, f2, f3, f4⟩ := abV n3; have hlt3 := aab n3; have HB3 := hE0 hb3; have HN3 := hE0 n3; clear hw3 hb3 n3 hC3; go_wp2
    exact ⟨w2.heap.size, Nat.le_refl _, ((((HB3.out.setCell (Nat.le_refl _) _).setCell (Nat.le_refl _) _).setCell (Nat.le_refl _) _).setCell (Nat.le_refl _) _).setCell (Nat.le_refl _) _, ahV HN3.out _ _ _ _ _, rfl⟩
  case wayC =>
   refine aaA (some 3) rfl rfl rfl (adw _ _ rfl wd) ((Below.refl _ _).alloc (Nat.le_refl _) _) ⟨wd.heap.size, Nat.le_refl _, ?_⟩; simp only [Act.put, lE4, lE5, lE6]; obtain ⟨w3, hw3⟩ := nmE (wd.alloc (.cells #[.int .i64 0, .int .i64 0, .int .i64 0, .int .i64 0, .int .i64 0] 43)); have hb3 := abE hw3; have n3 := anE hw3; rw [hw3]; have hC3 := agh (H1.out.below hb3).ar; have hL3 := abX (H1.out.below hb3).ar; rw [HNL.out] at hL3; refine aau (l := []) rfl (wpQuiet_nil ?_); refine aam (vs := #[.pointer (some ⟨g, 0, none⟩)]) Tryz.call16 rfl rfl rfl (R := fun r w' => r = .int .i64 (n : Int) /\ w' = w3) (hL3.mono ?_) wd.heap.size (Nat.le_refl _) ?_
   · rintro e w' ⟨rfl, rfl⟩; exact ⟨_, rfl, Below.refl _ _, rfl, rfl⟩
   rintro r w4 _ ⟨rfl, rfl⟩; refine aau (l := []) rfl (wpQuiet_nil ?_); simp only [Act.put, lE4, lE5, lE6]; refine aam (vs := #[.pointer (some ⟨g, 0, none⟩)]) Tryz.call44 rfl rfl rfl (R := fun r w' => r = .int .i64 (cap : Int) /\ w' = w4) (hC3.mono ?_) wd.heap.size (Nat.le_refl _) ?_
   · rintro e w' ⟨rfl, rfl⟩; exact ⟨_, rfl, Below.refl _ _, rfl, rfl⟩
   rintro r w5 _ ⟨rfl, rfl⟩; refine aaO (l := ?la4) (t := ?tl4) ?hla4 ?htl4 ?_
   case hla4 => simp only [pick, lE1, lE2, lE3]; rfl
   case htl4 => simp only [pick, lE1, lE2, lE3]; rfl
   simp only [Act.put, lE4, lE5, lE6]; repeat (go_big_quiet_step (fail))
   refine wpQuiet_nil ?_; obtain ⟨⟨c0, c1, c2, c3, c4⟩, f0, f1, f2, f3, f4⟩ := abV n3; have hlt3 := aab n3; have HB3 := hE0 hb3; have HN3 := hE0 n3; clear hw3 hb3 n3 hC3 hL3; go_wp2
   exact ⟨wd.heap.size, Nat.le_refl _, ((((HB3.out.setCell (Nat.le_refl _) _).setCell (Nat.le_refl _) _).setCell (Nat.le_refl _) _).setCell (Nat.le_refl _) _).setCell (Nat.le_refl _) _, ahV HN3.out _ _ _ _ _, rfl⟩
 case cont =>
  rintro ex a' w2 ⟨rfl, p, hp, hb2, n2, rfl⟩; have hb02 := HB1.out.trans (hb2.mono HB1.out.size); have h2 := H1.out.below hb2; have k2 := h2.c0; have hlq2 := h2.lt; have hW := afw w2 g base cap c A bs _ h2.ar hb62 (by rw [HNL.out]; exact hl) HWK.out; dsimp only [ac8, Option.isSome, Option.getD, aaz] at hW; have HW := hE0 hW; have HB2 := hE0 hb02; have HN2 := hE0 n2; have HNR := hE0 ((hb2.block w.heap.size (aab HN1.out)).trans HN1.out); have HPW := hE0 (show p ≠ w.heap.size from fun e => by have := aab HN1.out; omega); have HPG := hE0 (show w.heap.size <= p from Nat.le_trans HB1.out.size hp); have hpl2 := aab n2; clear h2 hW hb02 n2 hb2 hp HB1 HN1 HLN HCP H1 HW1 HWD hlq k0; go_wp2_with fail
  refine HW.out.mono ?_; rintro e w3 ⟨A3, c3, rfl, ho3, hb3⟩; have hcl : l.length <= c3 /\ c3 <= 9223372036854775807 := by
   rcases ho3.2 with ⟨h', h0⟩ | ⟨_, _, _, h', _, _, h1, h2, _⟩
   · injection h' with _ _ e; rw [h0, e]; omega
   · injection h' with _ _ e; unfold maxLen at h2; omega
  have HRB : Hid (∀ a, A3 = some a -> w2.heap.size <= a.block) := fun a e => by subst e; exact (ho3.lt a.block rfl).1
  have HR := hE0 (BkRd.of_own ho3); have HN3 := hE0 ((hb3.block p hpl2).trans HN2.out); have HNR3 := hE0 ((hb3.block w.heap.size (aab HNR.out)).trans HNR.out); have HB3 := hE0 (HB2.out.trans (hb3.mono HB2.out.size)); have hpl3 := Nat.lt_of_lt_of_le hpl2 hb3.size; clear ho3 hb3 HW HN2 HNR HB2 k2; go_wp2
  go_loopw [29] (fun t wr => ∃ j : Nat, t = .int .i64 (j : Int) /\ j <= l.length /\ Tch (fun k => k = p) w3 wr /\ wr.heap[p]? = some (.cells (afD (aa2 (l.take j)).1 (aa2 (l.take j)).2.1 (aa2 (l.take j)).2.2 n cap) 43 (0, 0))) (fun t _ => l.length - (intOf t).toNat)
  case atStart => exact ⟨0, rfl, Nat.zero_le _, Tch.refl _ _, by rw [List.take_zero]; exact HN3.out⟩
  case round =>
   obtain ⟨j, rfl, hj, ht, hr⟩ := hrel; have hle := aeR (l.take j); have hsb := acP l j; have hlt0 : (l.take j).length <= 512 := by rw [List.length_take]; omega
   have nR := (ht.block w.heap.size (aab HNR3.out) (Ne.symm HPW.out)).trans HNR3.out; have hfin : Below w.heap.size w wr := HB3.out.trans (ht.below (fun k hk => by rw [hk]; exact HPG.out) HB3.out.size); by_cases hlt : j < l.length
   · obtain ⟨x, hx⟩ : ∃ x, l[j]? = some x := ⟨l[j], List.getElem?_eq_getElem hlt⟩; have htk : l.take (j + 1) = l.take j ++ [x] := by
      rw [List.take_add_one, hx]; rfl
     have hsn := af7 (l.take j) x; rw [<- htk] at hsn; have hsz := HBD.out x (List.mem_of_getElem? hx); have hle2 := aeR (l.take (j + 1)); have hsb2 := acP l (j + 1); obtain ⟨b2, q2, rfl, hbb, hcl2⟩ := HR.out (by omega); have hb2p : ¬ (fun k => k = p) b2 := fun e => by
      have e : b2 = p := e; have := HRB.out _ rfl; dsimp only at this; omega
     obtain ⟨p0, p1, p2⟩ := hcl2 j x hx; have r0 := ht.cell p0 hb2p; have r1 := ht.cell p1 hb2p; have r2 := ht.cell p2 hb2p; obtain ⟨xo, xs, xu⟩ := x; dsimp only at p0 p1 p2 r0 r1 r2 hsz hsn; obtain ⟨s1, hs1⟩ := nmE ((aa2 (l.take j)).1); obtain ⟨s2, hs2⟩ := nmE ((aa2 (l.take j)).2.1); obtain ⟨s3, hs3⟩ := nmE ((aa2 (l.take j)).2.2); rw [hs1, hs2, hs3] at hr hle hsn; have hS : Hid (s1 <= 512 /\ s2 <= 512 /\ s3 <= 16384) := (show _ from ⟨by omega, by omega, by omega⟩); obtain ⟨hs1', hs2', hs3'⟩ := hS.out; obtain ⟨w4, hw4⟩ := nmE (wr.alloc (.cells #[.int .i64 (xo : Int), .int .i64 (xs : Int), .bool xu] 81)); have hb4 := abE hw4; have n4 := anE hw4; have r4 := (hb4.block p (aab hr)).trans hr; have T4 := hE0 (ht.trans (Tch.of_below (S := fun k => k = p) hb4) (fun _ _ h => h)); obtain ⟨⟨d0, d1, d2⟩, _⟩ := aad n4; have hlt4 := aaa n4; have hltp := aaa r4; obtain ⟨⟨v0, v1, v2, v3, v4⟩, f0, f1, f2, f3, f4⟩ := abV r4; have HW4 := hE0 hw4; have HR4 := hE0 r4; have HN4 := hE0 n4; have HPN := hE0 (show wr.heap.size ≠ p from fun e => by have := aab hr; omega)
     cases xu with
     | true =>
      rw [if_pos rfl] at hsn; have HUS := hE0 (fun W => ab0 W (xo : Int) xs true (by omega) (by omega)); obtain ⟨L, hL⟩ := nmE (xs - 16); rw [hL] at HUS hsn; have hL14 : L <= 16384 := by omega
      obtain ⟨s5, hs5⟩ := nmE (s1 + 1); obtain ⟨s6, hs6⟩ := nmE (s3 + L); have e5 : (s1 : Int) + 1 = (s5 : Int) := by omega
      have e6 : (s3 : Int) + (L : Int) = (s6 : Int) := by omega
      rw [hs5, hs6] at hsn; have HSN := hE0 hsn; have hs5' : s5 <= 513 := by omega
      have hs6' : s6 <= 32768 := by omega
      obtain ⟨w5, hw5⟩ := nmE (w4.setCell ⟨p, 0, none⟩ (.int .i64 (s5 : Int))); obtain ⟨we, hwe⟩ := nmE w5.drew; have r5 : we.heap[p]? = some (.cells (afD s5 s2 s3 n cap) 43 (0, 0)) := by
       rw [<- hwe, <- hw5]; exact heap_setCell_same w4 p 0 _ _ (.int .i64 (s5 : Int)) r4
      have n5 : we.heap[wr.heap.size]? = some (.cells #[.int .i64 (xo : Int), .int .i64 (xs : Int), .bool true] 81 (0, 0)) := by
       rw [<- hwe, <- hw5]; exact (Below.heap_setCell w4 ⟨p, 0, none⟩ _ wr.heap.size HPN.out).trans n4
      have T5 : Tch (fun k => k = p) w3 we := by
       rw [<- hwe, <- hw5]; exact (T4.out.trans (Tch.set (S := fun k => k = p) w4 ⟨p, 0, none⟩ _ rfl) (fun _ _ h => h)).drew
      have HW5 := hE0 hw5; have HWE := hE0 hwe; have HR5 := hE0 r5; have HT5 := hE0 T5; have hlt5 := aaa n5; have hltp5 := aaa r5; obtain ⟨⟨e0, e1, e2⟩, _⟩ := aad n5; obtain ⟨⟨u0, u1, u2, u3, u4⟩, _⟩ := abV r5; clear hx htk hsn hsz hcl2 p0 p1 p2 ht hr hs1 hs2 hs3 hle hsb hlt0 hle2 hsb2 nR hfin hw4 hb4 n4 r4 hL hS hw5 hwe r5 n5 T5 T4 HR4 HN4 hs5 hs6; go_wp2_with (first | (rw [HW4.out]) | (rw [HW5.out]) | fail)
      refine aaf we.heap.size [([0, 1, 2], 3)] [4, 5, 6] [7] (by kernel_rfl) (by kernel_rfl) (by kernel_rfl) (fun _ _ _ _ _ h => h) ?_; rw [HWE.out]; have q0 := tfE u2 hltp5; have q1 := tfE e0 hlt5; have q2 := tfE e1 hlt5; have q3 := tfE e2 hlt5; refine aaj (l := ?seg5) ?hseg5 ?_
      case hseg5 => simp only [pick, lE1, lE2, lE3]; rfl
      repeat (go_big_quiet_step (fail))
      refine wpQuiet_nil ?_; clear q0 q1 q2 q3 u0 u1 u2 u3 u4 e0 e1 e2 v0 v1 v2 v3 v4 f0 f1 f2 f3 f4 d0 d1 d2 hlt4 hltp; refine aam (vs := #[.agg #[.int .i64 (xo : Int), .int .i64 (xs : Int), .bool true]]) Tryz.call53 rfl rfl rfl (R := fun r w' => r = .int .u64 (L : Int) /\ Below we.heap.size we w') ((HUS.out we).mono ?_) we.heap.size (Nat.le_refl _) ?_
      · rintro e w' ⟨rfl, hb⟩; exact ⟨_, rfl, hb, rfl, hb⟩
      rintro r w6 _ ⟨rfl, hb6⟩; have r6 := (hb6.block p hltp5).trans HR5.out; obtain ⟨⟨u0, u1, u2, u3, u4⟩, f0, f1, f2, f3, f4⟩ := abV r6; have hlt6 := aaa r6; have HFN : Hid (Tch (fun k => k = p) w3 (w6.setCell ⟨p, 2, none⟩ (.int .i64 (s6 : Int))) /\ (w6.setCell ⟨p, 2, none⟩ (.int .i64 (s6 : Int))).heap[p]? = some (.cells (afD s5 s2 s6 n cap) 43 (0, 0))) :=
       ⟨(HT5.out.trans (Tch.of_below (S := fun k => k = p) hb6) (fun _ _ h => h)).trans (Tch.set (S := fun k => k = p) w6 ⟨p, 2, none⟩ _ rfl) (fun _ _ h => h), heap_setCell_same w6 p 2 _ _ (.int .i64 (s6 : Int)) r6⟩
      clear hb6 r6; refine aap (l := ?la6) (t := ?tl6) ?hla6 ?htl6 ?_
      case hla6 => simp only [pick, lE1, lE2, lE3]; rfl
      case htl6 => simp only [pick, lE1, lE2, lE3]; rfl
      simp only [Act.put, lE4, lE5, lE6]; repeat (go_big_quiet_step (fail))
      refine wpQuiet_nil ?_; go_wp2
      go_roundw
      case rel => exact ⟨j + 1, by go_num, by omega, HFN.out.1, by rw [HSN.out]; exact HFN.out.2⟩
      case measure => simp only [intOf]; omega
     | false =>
      rw [if_neg (by decide)] at hsn; obtain ⟨s5, hs5⟩ := nmE (s2 + 1); have e5 : (s2 : Int) + 1 = (s5 : Int) := by omega
      rw [hs5] at hsn; have HSN := hE0 hsn; have hs5' : s5 <= 513 := by omega
      have HFN : Hid (Tch (fun k => k = p) w3 (w4.setCell ⟨p, 1, none⟩ (.int .i64 (s5 : Int))) /\ (w4.setCell ⟨p, 1, none⟩ (.int .i64 (s5 : Int))).heap[p]? = some (.cells (afD s1 s5 s3 n cap) 43 (0, 0))) :=
       ⟨T4.out.trans (Tch.set (S := fun k => k = p) w4 ⟨p, 1, none⟩ _ rfl) (fun _ _ h => h), heap_setCell_same w4 p 1 _ _ (.int .i64 (s5 : Int)) r4⟩
      clear hx htk hsn hsz hcl2 p0 p1 p2 ht hr hs1 hs2 hs3 hle hsb hlt0 hle2 hsb2 nR hfin hw4 hb4 n4 r4 hS hs5 T4 HR4 HN4; go_wp2_with (first | (rw [HW4.out]) | fail)
      go_roundw
      case rel => exact ⟨j + 1, by go_num, by omega, HFN.out.1, by rw [HSN.out]; exact HFN.out.2⟩
      case measure => simp only [intOf]; omega
   · have htl : l.take j = l := List.take_of_length_le (by omega); rw [htl, HZ.out.1, HZ.out.2.1, HZ.out.2.2] at hr; obtain ⟨⟨v0, v1, v2, v3, v4⟩, _⟩ := abV hr; obtain ⟨⟨c0, c1, c2, c3', c4⟩, f0, f1, f2, f3, f4⟩ := abV nR; have hltr := aaa nR; have hltp := aaa hr; have NR := hE0 nR; have HF := hE0 hfin; clear hr hle hsb hlt0 ht nR hfin htl; go_wp2
     (try simp only [Exit.inBlock, Exit.then])
     refine alU (g := w.heap.size) (x0 := (z1 : Int)) (x1 := (z2 : Int)) (x2 := (z3 : Int)) (x3 := (n : Int)) (x4 := (cap : Int)) Tryz.results32 ?_ ?_ (ahV NR.out _ _ _ _ _) ?_
     · rfl
     · rfl
     · exact ⟨rfl, ((((HF.out.setCell (Nat.le_refl _) _).setCell (Nat.le_refl _) _).setCell (Nat.le_refl _) _).setCell (Nat.le_refl _) _).setCell (Nat.le_refl _) _⟩
end
theorem anu : laidOutB Tryz.prog = true := by kernel_rfl
theorem plc_law : Maps.Keyed Tryz.prog 149 :=
 Maps.Keyed.of_law (deep_law_laid anu (m := 2) (by omega) (of_decide_eq_true (by kernel_rfl)) (by kernel_rfl) (by rw [Tryz.underlying149]))
def pk (o k : Nat) : Lit := .string (keyBytes [.int .i64 (o : Int), .int .i64 (k : Int)])
abbrev pv (o k : Nat) : Value := .agg #[.int .i64 (o : Int), .int .i64 (k : Int)]
theorem af8 {o k : Nat} (ho : o <= 100000) (hk : k <= 100) : keyOf Tryz.prog 149 (pv o k) = some (pk o k) := by
 have w1 : (Lit.int .i64 (o : Int)).wf = true := WalkArith.wf_i64 (by omega); have w2 : (Lit.int .i64 (k : Int)).wf = true := WalkArith.wf_i64 (by omega); have hkt : Tryz.prog.keyType 149 = true := by kernel_rfl
 have hc : Tryz.prog.cellsOf 149 = 2 := by kernel_rfl
 have hi : Tryz.prog.cellsOf 3 = 1 := by kernel_rfl
 obtain ⟨m, hm⟩ : ∃ m, Tryz.prog.types.size = m + 1 := ⟨Tryz.prog.types.size - 1, by have : 0 < Tryz.prog.types.size := of_decide_eq_true (by kernel_rfl); omega⟩; unfold keyOf; simp only [Tryz.underlying149]; rw [if_pos (by simp [hkt, Value.formed, Tryz.underlying149, hc]), hm]; unfold Program.keyLits; simp only [Tryz.underlying149, Value.cells]; rw [if_pos ⟨by rw [hc]; rfl, by kernel_rfl⟩]; simp [hi, Program.keyLits, Tryz.underlying3, w1, w2, pk]
theorem an3 {o k o' k' : Nat} (ho : o <= 100000) (hk : k <= 100) (ho' : o' <= 100000) (hk' : k' <= 100) (h : pk o k = pk o' k') : o = o' /\ k = k' := by
 have h1 := af8 ho hk; rw [h] at h1; have h2 := plc_law.inj h1 (af8 ho' hk'); simp only [pv, Value.agg.injEq, Array.mk.injEq, List.cons.injEq, Value.int.injEq, and_true, true_and] at h2; omega
theorem apZ {o k : Nat} (ho : o <= 100000) (hk : k <= 100) : WideAt.IsKeyLit (pk o k) := plc_law.key (af8 ho hk)
def PSet (w : World) (B n : Nat) (f : Nat -> Nat -> Bool) (z : Nat) : Prop := ∃ D : DataW Unit, w.ownsMap Tryz.prog 149 (plainElem Tryz.prog 4) B n D /\
 (∀ kl, Maps.has D kl = true -> ∀ y, D.atKey kl y = .lit (.bool true)) /\ (∀ o k, o <= 100000 -> k <= 100 -> Maps.has D (pk o k) = f o k) /\ Maps.size D = z
theorem ahW (b : Bool) : plainElem (H := Unit) Tryz.prog 4 (.bool b) = some (.lit (.bool b), []) := plainElem_bool Tryz.underlying4 b
theorem alV (w : World) : (zeroValue 4).run Tryz.prog w = .ok (.bool false) w := by kernel_rfl
theorem agZ {P : Program} {e : TypeId} (he : P.underlying e = some .bool) {v : Value} {d : DataW Unit} {ps : List MemPlace} (h : plainElem P e v = some (d, ps)) : ∃ b, v = .bool b /\ d = .lit (.bool b) := by
 unfold plainElem at h; rw [he] at h
 cases v <;> simp at h; exact ⟨_, rfl, h.1.symm⟩
theorem anv {v : Value} {d : DataW Unit} {ps : List MemPlace} (h : plainElem Tryz.prog 4 v = some (d, ps)) : ∃ b, v = .bool b /\ d = .lit (.bool b) := agZ Tryz.underlying4 h
section
variable {w w' : World} {B n z : Nat} {f : Nat -> Nat -> Bool}
theorem PSet.made (w : World) : PSet (w.alloc (.map #[] 0)) w.heap.size 0 (fun _ _ => false) 0 :=
 ⟨.map [], World.ownsMap_made _ _ _ _, fun kl h => absurd h (by simp [Maps.has]), fun _ _ _ _ => rfl, rfl⟩
theorem PSet.lt (h : PSet w B n f z) : B < w.heap.size := by
 obtain ⟨D, ho, _⟩ := h; exact ho.lt
theorem PSet.keep (h : PSet w B n f z) (hb : w'.heap[B]? = w.heap[B]?) : PSet w' B n f z := by
 obtain ⟨D, ⟨es, clock, h1, h2⟩, h3⟩ := h; exact ⟨D, ⟨es, clock, hb.trans h1, h2⟩, h3⟩
theorem PSet.mono {n' : Nat} (h : PSet w B n f z) (hn : n <= n') : PSet w B n' f z := by
 obtain ⟨D, h1, h2⟩ := h; exact ⟨D, h1.mono hn, h2⟩
theorem PSet.below {B0 : Nat} (h : PSet w B n f z) (hb : Below B0 w w') (hB : B < B0) : PSet w' B n f z := h.keep (hb.block B hB)
theorem PSet.same {f' : Nat -> Nat -> Bool} (h : PSet w B n f z) (hf : ∀ o k, o <= 100000 -> k <= 100 -> f o k = f' o k) : PSet w B n f' z := by
 obtain ⟨D, h1, h2, h3, h4⟩ := h; exact ⟨D, h1, h2, fun o k ho hk => (h3 o k ho hk).trans (hf o k ho hk), h4⟩
end
section
variable {w : World} {ops : Array Oper} {rest : List Oper} {o : Oper} {a : Act} {Q : Exit -> Act -> World -> Prop} {B n z : Nat} {f : Nat -> Nat -> Bool}
theorem af9 (hg : o.guard = none) (m x : Operand) (hop : o.op = Op.lookup 117 m x false) (hm : a.eval m = .map (some B)) (h : PSet w B n f z) (p c : Nat) (hp : p <= 100000) (hc : c <= 100)
 (hx : a.eval x = pv p c) (b : Bool) (hb : f p c = b) (hK : wpList Tryz.prog ops Q rest (a.put o.dst (.bool b)) w) : wpList Tryz.prog ops Q (o :: rest) a w := by
 refine wpList_plain hg fun K' hK' => ?_; obtain ⟨D, hown, hall, hf, hz⟩ := h; obtain ⟨v, ps, hrun, hv⟩ := hown.lookup plc_law Tryz.underlying117 (alV w) (ahW false) (af8 hp hc); obtain ⟨b', rfl, hd⟩ := anv hv; have e : b' = b := by
  rw [<- hb, <- hf p c hp hc]
  cases hh : Maps.has D (pk p c)
  · rw [Maps.atKey_of_not_has hh] at hd; simpa using hd.symm
  · rw [hall _ hh] at hd; simpa using hd.symm
 subst e; unfold Oper.wp; simp [execOp, hop, hm, hx, hrun, Result.andThen]; exact hK' _ _ hK
theorem alW (hg : o.guard = none) (m x v : Operand) (hop : o.op = Op.mapUpdate 117 m x v) (hm : a.eval m = .map (some B)) (h : PSet w B n f z) (hn : n < maxLen) (p c : Nat) (hp : p <= 100000) (hc : c <= 100)
 (hx : a.eval x = pv p c) (hv : a.eval v = .bool true) (hf0 : f p c = false)
 (hK : ∀ w', PSet w' B (n + 1) (fun p' c' => f p' c' || (p' == p && c' == c)) (z + 1) -> Tch (fun j => j = B) w w' -> wpList Tryz.prog ops Q rest (a.put o.dst undef) w') : wpList Tryz.prog ops Q (o :: rest) a w := by
 obtain ⟨D, hown, hall, hf, hz⟩ := h; have hkl := apZ hp hc; have hno : Maps.has D (pk p c) = false := (hf p c hp hc).trans hf0; refine wpList_mapUpdate_own w hg m x v _ hop _ _ plc_law Tryz.underlying117 _ B n D hm hown hn _ _ (pk p c) hx hv (af8 hp hc) _ _ (ahW true) (fun w' h1 h2 => ?_); have hI := (hown.tidy plc_law).isMap; refine hK w' ⟨_, h1, fun kl hh y => ?_, fun p' c' hp' hc' => ?_, ?_⟩ (Tch.grown h2 (fun k hk => by injection hk with hk; exact hk.symm))
 · by_cases e : kl = pk p c
   · subst e; exact Maps.atKey_put_same hI hkl _ _
   · rw [Maps.has_put_other e] at hh; rw [Maps.atKey_put_other e]; exact hall _ hh y
 · by_cases e : pk p' c' = pk p c
   · obtain ⟨rfl, rfl⟩ := an3 hp' hc' hp hc e; rw [Maps.has_put_same hI hkl]; simp
   · rw [Maps.has_put_other e, hf p' c' hp' hc']; have : (p' == p && c' == c) = false := by
      rw [Bool.and_eq_false_iff, beq_eq_false_iff_ne, beq_eq_false_iff_ne]; by_cases e1 : p' = p
      · exact .inr fun e2 => e (by rw [e1, e2])
      · exact .inl e1
     show _ = (f p' c' || (p' == p && c' == c)); rw [this, Bool.or_false]
 · rw [Maps.size_put (hown.tidy plc_law), hno, hz]; rfl
theorem alX (hg : o.guard = none) (m x : Operand) (hop : o.op = Op.call { callee := Callee.builtin Builtin.delete, args := #[m, x], argTypes := #[117, 149] }) (hm : a.eval m = .map (some B)) (h : PSet w B n f z) (p c : Nat) (hp : p <= 100000) (hc : c <= 100)
 (hx : a.eval x = pv p c) (hf1 : f p c = true)
 (hK : ∀ w' z', z' + 1 = z -> PSet w' B n (fun p' c' => f p' c' && !(p' == p && c' == c)) z' -> Tch (fun j => j = B) w w' -> wpList Tryz.prog ops Q rest (a.put o.dst (.tuple #[])) w') : wpList Tryz.prog ops Q (o :: rest) a w := by
 obtain ⟨D, hown, hall, hf, hz⟩ := h; have hyes : Maps.has D (pk p c) = true := (hf p c hp hc).trans hf1; refine wpList_delete_own w hg m x _ _ hop _ plc_law Tryz.underlying117 _ B n D hm hown _ (pk p c) hx (af8 hp hc) (fun w' h1 h2 => ?_); have hs := Maps.size_del (k := pk p c) (hown.tidy plc_law); rw [hyes, if_pos rfl, hz] at hs; refine hK w' _ hs ⟨_, h1, fun kl hh y => ?_, fun p' c' hp' hc' => ?_, rfl⟩ (Tch.grown h2.grown (fun k hk => by injection hk with hk; exact hk.symm))
 · by_cases e : kl = pk p c
   · subst e; rw [Maps.has_del_same] at hh; cases hh
   · rw [Maps.has_del_other e] at hh; rw [Maps.atKey_del_other e]; exact hall _ hh y
 · by_cases e : pk p' c' = pk p c
   · obtain ⟨rfl, rfl⟩ := an3 hp' hc' hp hc e; rw [Maps.has_del_same]; simp
   · rw [Maps.has_del_other e, hf p' c' hp' hc']; have : (p' == p && c' == c) = false := by
      rw [Bool.and_eq_false_iff, beq_eq_false_iff_ne, beq_eq_false_iff_ne]; by_cases e1 : p' = p
      · exact .inr fun e2 => e (by rw [e1, e2])
      · exact .inl e1
     show _ = (f p' c' && !(p' == p && c' == c)); rw [this, Bool.not_false, Bool.and_true]
theorem alY (hg : o.guard = none) (m : Operand) (hop : o.op = Op.call { callee := Callee.builtin Builtin.len, args := #[m], argTypes := #[117] }) (hm : a.eval m = .map (some B)) (h : PSet w B n f z)
 (hK : wpList Tryz.prog ops Q rest (a.put o.dst (.int .i64 (z : Int))) w) : wpList Tryz.prog ops Q (o :: rest) a w := by
 obtain ⟨D, hown, _, _, hz⟩ := h; refine wpList_len_own w hg m _ hop _ _ Tryz.underlying117 _ B n D hm hown ?_; rw [hz]; exact hK
end
def apn (l : List Bk) : Nat -> Bool
 | 0 => false
 | j + 1 => !adO l j
theorem ahX {l : List Bk} {j : Nat} {x : Bk} (h : l[j]? = some x) : adO l j = x.used := by unfold adO; rw [h]
theorem akf (l : List Bk) (j : Nat) : (List.range (j + 1)).all (adP l) = ((List.range j).all (adP l) && adP l j) := by
 rw [List.range_succ, List.all_append]; simp
theorem alZ {l : List Bk} {j : Nat} (hj : j < l.length) (h : adP l j = false) : aeL l = false := by
 unfold aeL; rw [List.all_eq_false]; exact ⟨j, List.mem_range.2 hj, by rw [h]; decide⟩
theorem anw {l : List Bk} {j : Nat} {x : Bk} (h : l[j]? = some x) : adP l j = !(apn l j && !x.used) := by
 unfold adP; rw [ahX h]
 cases j with
 | zero => rfl
 | succ j =>
  simp only [apn, Nat.add_sub_cancel]
  cases x.used <;> cases adO l j <;> rfl
section
variable {w : World} {g base cap c : Nat} {A : Option Addr} {bs : List UInt8}
theorem abd {B : Nat} {w w' : World} (h : Below B w w') {b j : Nat} {v : Value} (hc : w.cell? ⟨b, j, none⟩ = some v) (hb : b < B) : w'.cell? ⟨b, j, none⟩ = some v :=
 (h.cell (p := ⟨b, j, none⟩) hb).trans hc
theorem anx (w : World) (A2 : Option Addr) (c2 : Nat) (l : List Bk) (hr : BkRd w w.heap.size A2 l) (hc : l.length <= c2 /\ c2 <= 9223372036854775807) (y : Bool) (hy : aeL l = y) :
 Calls Tryz.prog 73 #[.slice A2 l.length c2] w fun e w' => e = .returned (.bool (!y)) /\ Below w.heap.size w w' := by
 have HR := hE0 hr; have HY := hE0 hy; clear hr hy; go_enter Tryz.func73, Tryz.ntmps73
 go_wp2
 go_loopw [3, 8] (fun v t wr => ∃ (j : Nat) (b : Bool), t = .int .i64 (j : Int) /\ v = .bool b /\ b = apn l j /\ j <= l.length /\ (List.range j).all (adP l) = true /\ Below w.heap.size w wr) (fun _ t _ => l.length - (intOf t).toNat)
 case atStart => exact ⟨0, false, rfl, rfl, rfl, Nat.zero_le _, rfl, Below.refl _ _⟩
 case round =>
  obtain ⟨j, b, rfl, rfl, hbw, hj, hall, hbe⟩ := hrel; by_cases hlt : j < l.length
  · obtain ⟨x, hx⟩ : ∃ x, l[j]? = some x := ⟨l[j], List.getElem?_eq_getElem hlt⟩; obtain ⟨b2, o, rfl, hbb, hcl⟩ := HR.out (by omega); obtain ⟨p0, p1, p2⟩ := hcl j x hx; have hp := anw hx; have hs := akf l j; rw [hall, Bool.true_and] at hs; have hu := ahX hx; have r0 := abd hbe p0 hbb; have r1 := abd hbe p1 hbb; have r2 := abd hbe p2 hbb; obtain ⟨xo, xs, xu⟩ := x; dsimp only at p0 p1 p2 r0 r1 r2 hp hu; rw [<- hbw] at hp; obtain ⟨w4, hw4⟩ := nmE (wr.alloc (.cells #[.int .i64 (xo : Int), .int .i64 (xs : Int), .bool xu] 81)); have hb4 : Below w.heap.size w w4 := by rw [<- hw4]; exact hbe.alloc hbe.size _
    have n4 := anE hw4; obtain ⟨⟨d0, d1, d2⟩, _⟩ := aad n4; have HW4 := hE0 hw4; have HB4 := hE0 hb4; have HP := hE0 hp; have HS := hE0 hs; have HU := hE0 hu; clear hp hs hu hx hbe p0 p1 p2 hb4 n4 hw4 hcl hall hbw
    cases b <;> cases xu
    · go_wp2_with (first | (rw [HW4.out]) | fail)
      go_roundw
      case rel => exact ⟨j + 1, true, by go_num, rfl, by simp [apn, HU.out], by omega, by rw [HS.out, HP.out]; rfl, HB4.out⟩
      case measure => simp only [intOf]; omega
    · go_wp2_with (first | (rw [HW4.out]) | fail)
      go_roundw
      case rel => exact ⟨j + 1, false, by go_num, rfl, by simp [apn, HU.out], by omega, by rw [HS.out, HP.out]; rfl, HB4.out⟩
      case measure => simp only [intOf]; omega
    · obtain rfl : y = false := by rw [<- HY.out]; exact alZ hlt HP.out
      go_wp2_with (first | (rw [HW4.out]) | fail)
      go_ret
      exact ⟨rfl, HB4.out⟩
    · go_wp2_with (first | (rw [HW4.out]) | fail)
      go_roundw
      case rel => exact ⟨j + 1, false, by go_num, rfl, by simp [apn, HU.out], by omega, by rw [HS.out, HP.out]; rfl, HB4.out⟩
      case measure => simp only [intOf]; omega
  · obtain rfl : y = true := by
     rw [<- HY.out]; unfold aeL; rw [show l.length = j by omega]; exact hall
    have HB := hE0 hbe; clear hbe hall hbw; go_wp2
    go_ret
    exact ⟨rfl, HB.out⟩
theorem al0 (h : Ar w 79 g base cap A c bs) (hb : base <= 4611686018427387904) (hl : bs.length <= 16384) (h184 : 184 <= bs.length) (y : Bool) (hy : decide (aae bs 0 < 4194304) = y) :
 Calls Tryz.prog 74 #[.pointer (some ⟨g, 0, none⟩)] w fun e w' => e = .returned (.bool (!y)) /\ w = w' := by
 obtain ⟨v, hv⟩ := nmE (aae bs 0); have hvl : v < 18446744073709551616 := by rw [<- hv]; exact aao _ _
 have hW := abZ h hb hl 0 (by omega) (some v) (by unfold word?; rw [if_pos (by omega)]; simp [hv]); have e0 : adr base 0 = base := by unfold adr; omega
 rw [e0] at hW; dsimp only [wdV] at hW; rw [hv] at hy; have HBS := hE0 (acu h); have HW := hE0 hW; have HY := hE0 hy; clear hW hy hv h; go_enter Tryz.func74, Tryz.ntmps74
 go_wp2_with fail
 with_reducible refine HBS.out.mono ?_
 rintro e w1 ⟨rfl, rfl⟩; go_wp2_with fail
 with_reducible refine HW.out.mono ?_
 rintro e w1 ⟨rfl, rfl⟩; go_wp2
 go_ret
 exact ⟨amp (by rw [<- HY.out, Bool.eq_iff_iff]; simp; omega), rfl⟩
end
def aca (l : List Bk) (o k : Nat) : Bool := l.any fun x => x.off == o && !x.used && aar (x.size : Int) == (k : Int)
theorem aga : ∀ (l : List Bk) (o e : Nat), abU o l e -> l.Pairwise (fun a b => a.off < b.off)
 | [], _, _, _ => List.Pairwise.nil
 | x :: r, o, e, ⟨a, b, c⟩ => by
  have q := (aac _).1 b; refine List.pairwise_cons.2 ⟨fun y hy => ?_, aga r _ _ c⟩; have := ((aai r _ _ c).2 y hy).1; omega
theorem aiX {l : List Bk} {j : Nat} {x : Bk} (h : l[j]? = some x) (o k : Nat) : aca (l.take (j + 1)) o k = (aca (l.take j) o k || (x.off == o && !x.used && aar (x.size : Int) == (k : Int))) := amu h
theorem akg {l : List Bk} {j : Nat} {x : Bk} (hp : l.Pairwise (fun a b => a.off < b.off)) (h : l[j]? = some x) (k : Nat) : aca (l.take j) x.off k = false := by
 unfold aca; rw [List.any_eq_false]; intro y hy hc; obtain ⟨i, hi, e⟩ := List.getElem_of_mem hy; rw [List.length_take] at hi; rw [List.getElem_take] at e; obtain ⟨hj, e2⟩ := List.getElem?_eq_some_iff.1 h; have := List.pairwise_iff_getElem.1 hp i j (by omega) hj (by omega); rw [e, e2] at this; simp at hc; omega
theorem anz {l : List Bk} {j : Nat} {x : Bk} (h : l[j]? = some x) : abx (l.take (j + 1)) = abx (l.take j) + if x.used = true then 0 else 1 := by
 unfold abx; rw [aih h]
 cases x.used <;> rfl
theorem aiY (w : World) (A2 : Option Addr) (c2 : Nat) (l : List Bk) (hr : BkRd w w.heap.size A2 l) (hl : l.length <= 100000) (hp : l.Pairwise (fun a b => a.off < b.off))
 (hg : ∀ x ∈ l, aaG (x.size : Int) = true /\ x.off <= 100000) :
 Calls Tryz.prog 76 #[.slice A2 l.length c2] w fun e w' => e = .returned (.map (some w.heap.size)) /\ PSet w' w.heap.size l.length (aca l) (abx l) /\ Below w.heap.size w w' := by
 have HR := hE0 hr; have HG := hE0 hg; have HP := hE0 hp; have hmm := @run_makeMap Tryz.prog; obtain ⟨B0, hB0⟩ := nmE w.heap.size; have HB0 := hE0 hB0; have hP0 := PSet.made w; rw [hB0] at hP0; obtain ⟨w1, hw1⟩ := nmE (w.alloc (.map #[] 0)); have hb1 := abE hw1; rw [hw1] at hP0; have HW1 := hE0 hw1; have HB1 := hE0 hb1; have HP0 := hE0 hP0; clear hr hg hp hP0 hw1 hb1; go_enter Tryz.func76, Tryz.ntmps76
 go_wp2_with (first | (rw [HW1.out]) | fail)
 clear hmm hB0; go_loopw [9] (fun t wr => ∃ j : Nat, t = .int .i64 (j : Int) /\ j <= l.length /\ PSet wr B0 j (aca (l.take j)) (abx (l.take j)) /\ Below B0 w wr) (fun t _ => l.length - (intOf t).toNat)
 case atStart => exact ⟨0, rfl, Nat.zero_le _, HP0.out, by rw [<- HB0.out]; exact HB1.out⟩
 case round =>
  obtain ⟨j, rfl, hj, hps, hbe⟩ := hrel; by_cases hlt : j < l.length
  · obtain ⟨x, hx⟩ : ∃ x, l[j]? = some x := ⟨l[j], List.getElem?_eq_getElem hlt⟩; obtain ⟨b2, o, rfl, hbb, hcl⟩ := HR.out (by omega); rw [HB0.out] at hbb; obtain ⟨p0, p1, p2⟩ := hcl j x hx; have ht := aiX hx; have hn := akg HP.out hx; have hct := anz hx; obtain ⟨hsz, hoff⟩ := HG.out x (List.mem_of_getElem? hx); obtain ⟨k, hk, hk22⟩ := abb hsz; have hq := (aac _).1 hsz; have r0 := abd hbe p0 hbb; have r1 := abd hbe p1 hbb; have r2 := abd hbe p2 hbb; obtain ⟨xo, xs, xu⟩ := x; dsimp only at p0 p1 p2 r0 r1 r2 ht hn hct hoff hk hq; have hBr := hps.lt; obtain ⟨w4, hw4⟩ := nmE (wr.alloc (.cells #[.int .i64 (xo : Int), .int .i64 (xs : Int), .bool xu] 81)); have hb4 := abE hw4; have n4 := anE hw4; obtain ⟨⟨d0, d1, d2⟩, _⟩ := aad n4; have hlt4 := aab n4; have ps4 := hps.below hb4 hBr; have HW4 := hE0 hw4; have HB4 := hE0 (hbe.trans (hb4.mono (by omega)))
    cases xu with
    | true =>
     have hP : PSet w4 B0 (j + 1) (aca (l.take (j + 1))) (abx (l.take (j + 1))) := by
      rw [hct]; exact (ps4.mono (Nat.le_succ j)).same fun o k _ _ => by rw [ht]; simp
     have HPN := hE0 hP; clear hx hbe hps p0 p1 p2 hb4 n4 hw4 hcl hk hsz ht hn hct ps4 hP; go_wp2_with (first | (rw [HW4.out]) | fail)
     go_roundw
     case rel => exact ⟨j + 1, by go_num, by omega, HPN.out, HB4.out⟩
     case measure => simp only [intOf]; omega
    | false =>
     have hC := fun W => ahp W (xs : Int) (by omega); rw [hk] at hC; have HC := hE0 (hC w4.drew); have HPS := hE0 (⟨ps4, hlt4⟩ : PSet w4 B0 j (aca (l.take j)) (abx (l.take j)) /\ wr.heap.size < w4.heap.size); have hP : ∀ W, PSet W B0 (j + 1) (fun p' c' => aca (l.take j) p' c' || (p' == xo && c' == k)) (abx (l.take j) + 1) -> PSet W B0 (j + 1) (aca (l.take (j + 1))) (abx (l.take (j + 1))) := fun W h => by
      rw [hct]; refine h.same fun o k' _ _ => ?_; rw [ht, hk]; congr 1; rw [Bool.eq_iff_iff]; simp; omega
     have HPN := hE0 hP; have HN := hE0 (hn k); clear hx hbe hps p0 p1 p2 hb4 n4 hw4 hcl hk hsz ht hn hct ps4 hP hC; go_wp2_with (first | (rw [HW4.out]) | fail)
     refine aaf w4.heap.size [([0, 1, 2, 3, 4], 5)] [6] [7] (by kernel_rfl) (by kernel_rfl) (by kernel_rfl) (fun _ _ _ _ _ h => h) ?_; have q0 : ∀ z : LaterB w4.heap.size w4.drew, z.val.cell? ⟨wr.heap.size, 0, none⟩ = some (.int .i64 (xo : Int)) := fun z => abd z.ext d0 hlt4; have q1 : ∀ z : LaterB w4.heap.size w4.drew, z.val.cell? ⟨wr.heap.size, 1, none⟩ = some (.int .i64 (xs : Int)) := fun z => abd z.ext d1 hlt4; refine aaj (l := ?seg1) ?hseg1 ?_
     case hseg1 => simp only [pick, lE1, lE2, lE3]; rfl
     repeat (go_big_quiet_step (fail))
     refine wpQuiet_nil ?_; clear q0 q1; refine aam (vs := #[.int .i64 (xs : Int)]) Tryz.call105 rfl rfl rfl (R := fun r w' => r = .int .i64 (k : Int) /\ Below w4.heap.size w4.drew w') (HC.out.mono ?_) w4.heap.size (Nat.le_refl _) ?_
     · rintro e w' ⟨rfl, hb⟩; exact ⟨_, rfl, hb, rfl, hb⟩
     rintro r w5 _ ⟨rfl, hb5⟩; have hb6 : Below w4.heap.size w4 w5 := ⟨hb5.os, hb5.tape, hb5.output, hb5.size, hb5.block⟩; have hs6 : w4.heap.size <= w5.heap.size := hb6.size; have hps5 := HPS.out.1.below hb6 (by omega); refine aap (l := ?la1) (t := ?tl1) ?hla1 ?htl1 ?_
     case hla1 => simp only [pick, lE1, lE2, lE3]; rfl
     case htl1 => simp only [pick, lE1, lE2, lE3]; rfl
     simp only [Act.put, lE4, lE5, lE6]; repeat (go_big_quiet_step (fail))
     refine wpQuiet_nil ?_; refine alW rfl _ _ _ rfl rfl hps5 (by unfold maxLen; omega) xo k (by omega) (by omega) rfl rfl HN.out ?_; intro w6 hp6 ht6; have HP6 := hE0 (HPN.out w6 hp6); have HB6 := hE0 ((HB4.out.trans (hb6.mono (by omega))).trans (ht6.below (B := B0) (fun q hq => by omega) (by omega))); clear hp6 ht6 hps5 hb5 hb6 hs6; go_wp2
     go_roundw
     case rel => exact ⟨j + 1, by go_num, by omega, HP6.out, HB6.out⟩
     case measure => simp only [intOf]; omega
  · have e : l.take j = l := List.take_of_length_le (by omega); rw [e] at hps; have HPS := hE0 (hps.mono (n' := l.length) (by omega)); have HB := hE0 hbe; clear hbe hps e; go_wp2
    go_ret
    exact ⟨by rw [HB0.out]; rfl, by rw [HB0.out]; exact HPS.out, by rw [HB0.out]; exact HB.out⟩
theorem ap0 {l : List Bk} {all : List Nat} {j o : Nat} (ho : all[j]? = some o) (h : (acr l o && !(all.take j).contains o) = false) : all.all (okO l all) = false := by
 rw [List.all_eq_false]; refine ⟨o, List.mem_of_getElem? ho, ?_⟩; unfold okO
 cases hf : acr l o
 · simp
 · rw [hf, Bool.true_and, Bool.not_eq_false', List.contains_iff_mem] at h; obtain ⟨hj, e⟩ := List.getElem?_eq_some_iff.1 ho; have h1 : 0 < (all.take j).count o := List.count_pos_iff.2 h; have h2 : 0 < (all.drop j).count o := List.count_pos_iff.2 (by rw [List.drop_eq_getElem_cons hj, e]; exact List.mem_cons_self); have h3 : all.count o = (all.take j).count o + (all.drop j).count o := by
    rw [<- List.count_append, List.take_append_drop]
   have : (all.count o == 1) = false := by rw [beq_eq_false_iff_ne]; omega
   rw [this]; simp
theorem apb {l : List Bk} {all : List Nat} (hn : all.Nodup) (h : ∀ o ∈ all, acr l o = true) : all.all (okO l all) = true := by
 rw [List.all_eq_true]; intro o ho; unfold okO; have h1 : 0 < all.count o := List.count_pos_iff.2 ho; have h2 := List.nodup_iff_count.1 hn o; rw [h o ho, show all.count o = 1 by omega]; rfl
theorem ag0 {all : List Nat} {j o : Nat} (ho : all[j]? = some o) : all.take (j + 1) = all.take j ++ [o] := by
 rw [List.take_add_one, ho]; rfl
theorem al1 {all : List Nat} {j o : Nat} (ho : all[j]? = some o) (hn : (all.take j).Nodup) (h : (all.take j).contains o = false) : (all.take (j + 1)).Nodup := by
 rw [ag0 ho, List.nodup_append]; refine ⟨hn, by simp, fun a ha b hb e => ?_⟩; obtain rfl : b = o := by simpa using hb
 subst e; rw [List.contains_iff_mem.2 ha] at h
 cases h
theorem ag1 {bs : List UInt8} {l : List Bk} (hg : ∀ x ∈ l, abt bs (x.off : Int) = some x) {o k : Nat} (h : aat bs o (k : Int) = true) : aca l o k = acr l o := by
 unfold aca acr; rw [Bool.eq_iff_iff, List.any_eq_true, List.any_eq_true]; unfold aat at h; refine exists_congr fun x => and_congr_right fun hx => ?_; have h1 := hg x hx; by_cases e : x.off = o
 · rw [<- e, h1] at h; dsimp only at h; rw [Bool.and_eq_true, Bool.and_eq_true] at h; rw [h.2.1, h.2.2]; simp
 · have : (x.off == o) = false := by rw [beq_eq_false_iff_ne]; exact e
   rw [this]; simp
theorem BkRd.later {w w' : World} {B B' : Nat} {A : Option Addr} {l : List Bk} (h : BkRd w B A l) (hb : Below B w w') (hB : B <= B') : BkRd w' B' A l := fun h0 => by
 obtain ⟨b, o, e, hbb, hc⟩ := h h0; refine ⟨b, o, e, by omega, fun j x hx => ?_⟩; obtain ⟨p0, p1, p2⟩ := hc j x hx; exact ⟨abd hb p0 hbb, abd hb p1 hbb, abd hb p2 hbb⟩
theorem al2 {S : Nat -> Prop} {w w' : World} (h : Tch S w w') {b j : Nat} {v : Value} (hc : w.cell? ⟨b, j, none⟩ = some v) (hb : b < w.heap.size) (hn : ¬ S b) : w'.cell? ⟨b, j, none⟩ = some v :=
 (World.cell?_of_block (w := w) (a := ⟨b, j, none⟩) (h.block b hb hn)).trans hc
def aiZ (f : Nat -> Nat -> Bool) (d : Nat) (m : List Nat) : Nat -> Nat -> Bool := fun o k => f o k && !(k == d && m.contains o)
theorem akh (w0 w : World) (g base cap c : Nat) (A : Option Addr) (bs : List UInt8) (h : Ar w0 79 g base cap A c bs) (hb : base <= 4611686018427387904) (hl : bs.length <= 16384) (hw : Below w0.heap.size w0 w)
 (B n z : Nat) (f : Nat -> Nat -> Bool) (hps : PSet w B n f z) (hB : w0.heap.size <= B) (l : List Bk) (hf : ∀ k : Nat, k < 22 -> ∀ o, aat bs o (k : Int) = true -> f o k = acr l o) (y : Bool) (hy : aeN bs l 22 0 (z : Int) = y) :
 Calls Tryz.prog 75 #[.pointer (some ⟨g, 0, none⟩), .map (some B)] w fun e w' => e = .returned (.bool y) /\ Below w0.heap.size w0 w' := by
 have HAR := hE0 h; have HBASE := hE0 hb; have HW := hE0 hw; have HPS := hE0 hps; have HF := hE0 hf; have HY := hE0 hy; clear h hb hw hps hf hy; go_enter Tryz.func75, Tryz.ntmps75
 go_wp2
 go_loopw [11] (fun t wr => ∃ (d k z : Nat) (f : Nat -> Nat -> Bool), t = .int .i64 (d : Int) /\ d + k = 22 /\ y = aeN bs l k d (z : Int) /\ PSet wr B n f z /\ (∀ k' : Nat, d <= k' -> k' < 22 -> ∀ o, aat bs o (k' : Int) = true -> f o k' = acr l o) /\ Below w0.heap.size w0 wr) (fun t _ => 22 - (intOf t).toNat)
 case atStart => exact ⟨0, 22, z, f, rfl, rfl, HY.out.symm, HPS.out, fun k' _ h => HF.out k' h, HW.out⟩
 case round =>
  clear HPS HF HY HW; obtain ⟨d, k, z, f, rfl, hdk, hyk, hps, hfm, hbe⟩ := hrel; generalize wr = wq at *; by_cases hd22 : d < 22
  · obtain ⟨k, rfl⟩ : ∃ k', k = k' + 1 := ⟨k - 1, by omega⟩; have har : Ar wq 79 g base cap A c bs := HAR.out.below hbe; have hBq := hps.lt
    cases ha : aep bs d with
    | none =>
     obtain rfl : y = false := by rw [hyk]; simp [aeN, ha]
     have hA := anR wq g base cap c A bs d _ har HBASE.out hl hd22 ha; dsimp only [aec, Option.isSome, Option.getD, aaz] at hA; have HA := hE0 hA; have HB := hE0 hbe; clear hA hbe hyk har ha HAR hps hfm; go_wp2_with fail
     with_reducible refine HA.out.mono ?_
     rintro e w2 ⟨A', c', rfl, _, hb3⟩; have HB2 := hE0 (HB.out.trans (hb3.mono (by omega))); clear hb3; go_wp2
     go_ret
     exact ⟨rfl, HB2.out⟩
    | some all =>
     have hA := anR wq g base cap c A bs d _ har HBASE.out hl hd22 ha; dsimp only [aec, Option.isSome, Option.getD, aaz] at hA; have hyk' : y = (all.all (okO l all) && aeN bs l k (d + 1) ((z : Int) - all.length)) := by
      rw [hyk]; conv => lhs; unfold aeN
      rw [ha] <;> rfl
     have hmem : ∀ o ∈ all, aat bs o (d : Int) = true /\ o <= 20000 := fun o ho => ⟨acF ha o ho, (adV (acF ha o ho)).1⟩; have hal := aje ha; have HA := hE0 hA; have HB := hE0 hbe; have HYK := hE0 hyk'; have HMEM := hE0 hmem; have HPS := hE0 hps; have HFM := hE0 hfm; clear hA hbe hyk hyk' har ha hps hfm hmem; go_wp2_with fail
     with_reducible refine HA.out.mono ?_
     rintro e w2 ⟨A2, c2, rfl, ho2, hb3⟩; have HO2 := hE0 ho2; have HB2 := hE0 (HB.out.trans (hb3.mono (by omega))); have HPS2 := hE0 (HPS.out.below hb3 hBq); have hs2 := hb3.size; clear hb3 ho2 HA HB HPS; go_wp2
     go_loopw [24] (fun t wi => ∃ j z' : Nat, t = .int .i64 (j : Int) /\ j <= all.length /\ z' + j = z /\ (all.take j).Nodup /\ (∀ o ∈ all.take j, acr l o = true) /\ PSet wi B n (aiZ f d (all.take j)) z' /\ Tch (fun q => q = B) w2 wi) (fun t _ => all.length - (intOf t).toNat)
     case atStart => exact ⟨0, z, rfl, Nat.zero_le _, by omega, by simp, by simp, HPS2.out.same (fun o k _ _ => by simp [aiZ]), Tch.refl _ _⟩
     case round =>
      clear HPS2; obtain ⟨j, z', rfl, hj, hz, hnd, hfd, hps, htc⟩ := hrel; by_cases hlt : j < all.length
      · obtain ⟨o, ho⟩ : ∃ o, all[j]? = some o := ⟨all[j], List.getElem?_eq_getElem hlt⟩; obtain ⟨hmo, ho2⟩ := HMEM.out o (List.mem_of_getElem? ho); obtain ⟨b2, o2, rfl, hbb, hcl⟩ := agv HO2.out rfl (by simp [amt]; omega); have hbB : wq.heap.size <= b2 := (HO2.out.lt b2 rfl).1; have p0 := hcl j (o : Int) (by simp [amt, ho]); have r0 := al2 htc p0 hbb (by omega); have hff := HFM.out d (Nat.le_refl _) hd22 o hmo; obtain ⟨bb, hbbv⟩ := nmE ((acr l o && !(all.take j).contains o)); have hlook : aiZ f d (all.take j) o d = bb := by
         unfold aiZ; rw [hff, <- hbbv]; simp
        have hBi := hps.lt; obtain ⟨w4, hw4⟩ := nmE (wr.alloc (.cells #[.int .i64 (o : Int), .int .i64 (d : Int)] 149)); have hb4 := abE hw4; have n4 := anE hw4; have d0 := cell_of_row w4 wr.heap.size 0 _ _ (0, 0) n4; have d1 := cell_of_row w4 wr.heap.size 1 _ _ (0, 0) n4; simp only [List.getElem?_toArray, List.getElem?_cons_zero, List.getElem?_cons_succ] at d0 d1; have HW4 := hE0 hw4; have HP4 := hE0 (hps.below hb4 hBi); have HT4 := hE0 (htc.trans (S' := fun q => q = B) (Tch.of_below hb4) (fun _ _ h => h)); have HLK := hE0 hlook; have HBBV := hE0 hbbv; have HND := hE0 hnd; have HFD := hE0 hfd; have HO := hE0 ho; clear ho hmo hcl p0 hff hlook hbbv hps htc hb4 n4 hw4 hnd hfd HAR HO2 HMEM HFM
        cases bb with
        | false =>
         obtain rfl : y = false := by rw [HYK.out, ap0 HO.out HBBV.out]; rfl
         have HE := hE0 (HB2.out.trans (HT4.out.below (B := w0.heap.size) (fun q hq => by omega) (by omega))); clear HB2 HT4 HYK; go_wp2_with (first | (rw [HW4.out]) | (at_lookup; refine af9 rfl _ _ rfl rfl HP4.out o d (by omega) (by omega) rfl false HLK.out ?_) | fail)
         go_ret
         exact ⟨rfl, HE.out⟩
        | true =>
         go_wp2_with (first | (rw [HW4.out]) | (at_lookup; refine af9 rfl _ _ rfl rfl HP4.out o d (by omega) (by omega) rfl true HLK.out ?_) | (at_delete; refine alX rfl _ _ rfl rfl HP4.out o d (by omega) (by omega) rfl HLK.out ?_; intro w5 z5 hz5 hp5 ht5; have HP5 := hE0 hp5; have HT5 := hE0 (HT4.out.trans ht5 (fun _ _ h => h)); have HZ5 := hE0 hz5; clear hp5 ht5 hz5) | fail)
         go_roundw
         case rel =>
          have hno : (all.take j).contains o = false := by
           have := HBBV.out; rw [Bool.and_eq_true, Bool.not_eq_true'] at this; exact this.2
          have hyes : acr l o = true := by
           have := HBBV.out; rw [Bool.and_eq_true] at this; exact this.1
          refine ⟨j + 1, z5, by go_num, by omega, by have := HZ5.out; omega, al1 HO.out HND.out hno, fun q hq => ?_, ?_, HT5.out⟩
          · rw [ag0 HO.out, List.mem_append] at hq; rcases hq with hq | hq
            · exact HFD.out q hq
            · obtain rfl : q = o := by simpa using hq
              exact hyes
          · refine HP5.out.same fun q k' _ _ => ?_; unfold aiZ; rw [ag0 HO.out, Bool.and_assoc]; congr 1; rw [Bool.eq_iff_iff]; simp; by_cases e1 : k' = d <;> by_cases e2 : q = o <;> simp [e1, e2]
         case measure => simp only [intOf]; omega
      · have ejl : j = all.length := by omega
        have et : all.take j = all := List.take_of_length_le (by omega); rw [et] at hnd hfd hps; have hyn : y = aeN bs l k (d + 1) (z' : Int) := by
         rw [HYK.out, apb hnd hfd, Bool.true_and]; congr 1; omega
        have HYN := hE0 hyn; have HP := hE0 hps; have HE := hE0 (HB2.out.trans (htc.below (B := w0.heap.size) (fun q hq => by omega) (by omega))); clear hyn hps htc hnd hfd et ejl HYK HB2 HO2; go_wp2
        go_roundw
        case rel =>
         refine ⟨d + 1, k, z', aiZ f d all, by go_num, by omega, HYN.out, HP.out, fun k' h1 h2 q hq => ?_, HE.out⟩; have : (k' == d) = false := by rw [beq_eq_false_iff_ne]; omega
         unfold aiZ; rw [this, Bool.false_and, Bool.not_false, Bool.and_true]; exact HFM.out k' (by omega) h2 q hq
        case measure => simp only [intOf]; omega
  · obtain ⟨rfl, rfl⟩ : d = 22 /\ k = 0 := by omega
    have hyz : y = ((z : Int) == 0) := hyk; have HYZ := hE0 hyz; have HPS := hE0 hps; have HB := hE0 hbe; clear hyz hyk hps hbe hfm HAR; go_wp2_with (first | (at_len; refine alY rfl _ rfl rfl HPS.out ?_) | fail)
    go_ret
    exact ⟨amp HYZ.out.symm, HB.out⟩
theorem ajG : anU := by
 intro w g base cap c A bs x h hb hl hx
 cases hw : aco bs with
 | none =>
  obtain rfl : false = x := by rw [<- hx]; unfold acM; rw [hw]
  have hW := afw w g base cap c A bs _ h hb hl hw; dsimp only [ac8, Option.isSome, Option.getD, aaz] at hW; dsimp only [aaz]; have HW := hE0 hW; clear hW hw hx h hb; go_enter Tryz.func45, Tryz.ntmps45
  go_wp2_with fail
  with_reducible refine HW.out.mono ?_
  rintro e w2 ⟨A', c', rfl, _, hb2⟩; have HB2 := hE0 hb2; clear hb2; go_wp2
  go_ret
  exact ⟨rfl, HB2.out⟩
 | some l =>
  obtain ⟨h184, ht, hg⟩ := aaq hw; have hm := aai l _ _ ht; obtain ⟨y1, hy1⟩ : ∃ y, aeL l = y := ⟨_, rfl⟩; obtain ⟨y2, hy2⟩ : ∃ y, decide (aae bs 0 < 4194304) = y := ⟨_, rfl⟩; obtain ⟨y3, hy3⟩ : ∃ y, aeN bs l 22 0 (abx l) = y := ⟨_, rfl⟩; have e0 : akn bs 0 = aae bs 0 := by unfold akn word?; rw [if_pos (by omega)]; rfl
  have hx' : (y2 && (y1 && y3)) = x := by
   rw [<- hx]; unfold acM; rw [hw]; dsimp only; rw [e0, hy1, hy2, hy3]
  have hll := ahk hw; have hW := afw w g base cap c A bs _ h hb hl hw; dsimp only [ac8, Option.isSome, Option.getD, aaz] at hW; have HW := hE0 hW; have HAR := hE0 h; have HBASE := hE0 hb; have HG : Hid (∀ x ∈ l, aaG (x.size : Int) = true /\ x.off <= 100000) := fun x hx => ⟨(hm.2 x hx).2.2.1, by have := (hm.2 x hx).2.1; omega⟩; have HPM : Hid (∀ k : Nat, k < 22 -> ∀ o, aat bs o (k : Int) = true -> aca l o k = acr l o) := fun k _ o ho => ag1 hg ho; have HR := hE0 (aga l _ _ ht); have HY1 := hE0 hy1; have HY2 := hE0 hy2; have HY3 := hE0 hy3; clear hW hw hx h hb ht hg hm hy1 hy2 hy3 e0; go_enter Tryz.func45, Tryz.ntmps45
  go_wp2_with fail
  with_reducible refine HW.out.mono ?_
  rintro e w2 ⟨A2, c2, rfl, ho2, hb2⟩; have hcl : l.length <= c2 /\ c2 <= 9223372036854775807 := by
   rcases ho2.2 with ⟨h', h0⟩ | ⟨_, _, _, h', _, _, h1, h2, _⟩
   · injection h' with _ _ e; rw [h0, e]; omega
   · injection h' with _ _ e; unfold maxLen at h2; omega
  have hr2 := BkRd.of_own ho2; have HR2 := hE0 hr2; have HB2 := hE0 hb2; have HADJ := hE0 (anx w2 A2 c2 l hr2 hcl y1 HY1.out); have hs2 := hb2.size; clear ho2 hr2 hb2 HW; go_wp2_with fail
  with_reducible refine HADJ.out.mono ?_
  rintro e w3 ⟨rfl, hb3⟩; have hr3 := HR2.out.later hb3 hb3.size; have HB3 := hE0 (HB2.out.trans (hb3.mono hs2)); have hs3 := hb3.size; clear hb3 HR2 HB2 HADJ
  cases y1 with
  | false =>
   obtain rfl : false = x := by rw [<- hx']; simp
   clear HAR HG HPM hr3 hx'; dsimp only [aaz]; go_wp2
   go_ret
   exact ⟨rfl, HB3.out⟩
  | true =>
   have HBT := hE0 (al0 (HAR.out.below HB3.out) HBASE.out hl h184 y2 HY2.out); have HPL := hE0 (aiY w3 A2 c2 l hr3 (by omega) HR.out HG.out); clear hr3; go_wp2_with fail
   with_reducible refine HBT.out.mono ?_
   rintro e w4 ⟨rfl, rfl⟩
   cases y2 with
   | false =>
    obtain rfl : false = x := by rw [<- hx']; simp
    clear HAR HG HPM hx' HBT HPL; dsimp only [aaz]; go_wp2
    go_ret
    exact ⟨rfl, HB3.out⟩
   | true =>
    obtain rfl : y3 = x := by rw [<- hx']; simp
    go_wp2_with fail
    with_reducible refine HPL.out.mono ?_
    rintro e w4 ⟨rfl, hps4, hb4⟩; have HLS := hE0 (akh w w4 g base cap c A bs HAR.out HBASE.out hl (HB3.out.trans (hb4.mono (by omega))) w3.heap.size l.length (abx l) (aca l) hps4 (by omega) l HPM.out y3 HY3.out); clear HAR HG HPM hx' HBT HPL hps4 hb4; go_wp2_with fail
    with_reducible refine HLS.out.mono ?_
    rintro e w5 ⟨rfl, hb5⟩; have HB5 := hE0 hb5; clear hb5 HLS
    cases y3 with
    | false =>
     dsimp only [aaz]; go_wp2
     go_ret
     exact ⟨rfl, HB5.out⟩
    | true =>
     dsimp only [aaz]; go_wp2
     go_ret
     exact ⟨rfl, HB5.out⟩
def PMade (base cap : Nat) (H : Hp) (w : World) (e : Ending) (w' : World) : Prop :=
 ∃ q g A c bs, e = .returned (.tuple #[.pointer (some ⟨q, 0, none⟩), .nilIface]) /\ PH w' q g base cap A c bs H /\ Below w.heap.size w w' /\ w.heap.size <= q /\ w.heap.size <= g /\ ∀ a, A = some a -> w.heap.size <= a.block
section
variable {w w' : World} {q g base cap c : Nat} {A : Option Addr} {bs out : List UInt8} {H H' : Hp}
theorem anA (w : World) (base : Nat) (hb : base < 18446744073709551616) (cap : Int) (hc : -9223372036854775808 <= cap /\ cap <= 9223372036854775807) (h : base % 16 ≠ 0 \/ 4611686018427387904 < base \/ cap < 1024 \/ 16384 < cap) :
 Calls Tryz.prog 5 #[.int .u64 (base : Int), .int .i64 cap] w fun e w' => e = .returned (.tuple #[.pointer none, ah3 1]) /\ w = w' := by
 have HN := hE0 (apq w base cap hb hc h); clear h; go_enter Tryz.func5, Tryz.ntmps5
 go_wp2_with fail
 refine HN.out.mono ?_; rintro e w2 ⟨rfl, rfl⟩; go_wp2
 go_ret2
 exact ⟨rfl, rfl⟩
theorem afr (w : World) (base cap : Nat) (h1 : base % 16 = 0) (h2 : base <= 4611686018427387904) (h3 : 1024 <= cap) (h4 : cap <= 16384) :
 Calls Tryz.prog 5 #[.int .u64 (base : Int), .int .i64 (cap : Int)] w fun e w' => PMade base cap (adQ cap) w e w' := by
 obtain ⟨z, hz⟩ := nmE (List.replicate 184 (0 : UInt8)); have HZ := hE0 (amY hz cap (by omega)); have HN := hE0 (aod w base cap h1 h2 h3 h4); have hG : ∀ W g c A, Ar W 79 g base cap A c [] -> Calls Tryz.prog 28 #[.pointer (some ⟨g, 0, none⟩), .int .i64 184] W fun e w' => e = .returned .nilIface /\ Became 79 g base cap A z W w' := fun W g c A ha => by
  have := ah8 ha 184 (by simp) h4 (by simp; omega); rw [List.nil_append, hz] at this; exact this
 have HG := hE0 hG; clear hG hz; go_enter Tryz.func5, Tryz.ntmps5
 go_wp2_with fail
 refine HN.out.mono ?_; rintro e w2 ⟨rfl, ha, hb⟩; have HG2 := hE0 (HG.out w2 _ _ _ ha); have HB2 := hE0 hb; have HL2 := hE0 ha.lt; clear ha hb HG HN; go_wp2_with fail
 refine HG2.out.mono ?_; rintro e w3 ⟨rfl, A3, c3, a3, t3, m3⟩; have hft : ∀ k, abg w.heap.size none k -> w.heap.size <= k := fun k hk => by
  rcases hk with rfl | ⟨a, e, _⟩
  · exact Nat.le_refl _
  · exact absurd e (by nofun)
 have hb3 : Below w.heap.size w w3 := HB2.out.trans (t3.below hft HB2.out.size); have hA3 : ∀ a, A3 = some a -> w.heap.size <= a.block := fun a e => by
  rcases m3 with h | h
  · rw [h] at e; cases e
  · exact Nat.le_trans HB2.out.size (h a e)
 obtain ⟨w4, hw4⟩ := nmE (w3.alloc (.cells #[.pointer (some ⟨w.heap.size, 0, none⟩)] 69)); have hb4 := abE hw4; have n4 := anE hw4; have HF : Hid (PMade base cap (adQ cap) w (.returned (.tuple #[.pointer (some ⟨w3.heap.size, 0, none⟩), .nilIface])) w4) :=
  ⟨_, _, A3, c3, z, rfl, ⟨n4, a3.below hb4, HZ.out, rfl, h4, h2⟩, hb3.trans (hb4.mono hb3.size), hb3.size, Nat.le_refl _, hA3⟩
 have HW4 := hE0 hw4; clear a3 t3 m3 hft hb3 hA3 hw4 hb4 n4 HG2 HB2 HL2; go_wp2_with (first | (rw [HW4.out]) | fail)
 go_ret2
 exact HF.out
theorem aey (h : PH w q g base cap A c bs H) :
 Calls Tryz.prog 14 #[.pointer (some ⟨q, 0, none⟩)] w fun e w' => anN base cap bs w e w' := by
 have HC := hE0 (akH h.ar (by have := h.len; omega)); have k0 := h.c0; have hlq := h.lt; clear h; go_enter Tryz.func14, Tryz.ntmps14
 go_wp2_with fail
 refine HC.out.mono ?_; rintro e w2 ⟨g2, A2, c2, rfl, h2⟩; have HF := hE0 h2; clear h2 HC k0; go_wp2
 go_ret
 exact ⟨g2, A2, c2, rfl, HF.out⟩
theorem al3 (h : PH w q g base cap A c bs H) (n : Int) (hb : n < (cap : Int) \/ 16384 < n) :
 Calls Tryz.prog 21 #[.pointer (some ⟨q, 0, none⟩), .int .i64 n] w fun e w' => e = .returned (ah3 1) /\ w = w' := by
 have HC := hE0 (amn h.ar n hb); have k0 := h.c0; have hlq := h.lt; clear h hb; go_enter Tryz.func21, Tryz.ntmps21
 go_wp2_with fail
 refine HC.out.mono ?_; rintro e w2 ⟨rfl, rfl⟩; go_wp2
 go_ret
 exact ⟨rfl, rfl⟩
def Hp.capped (H : Hp) (n : Nat) : Hp := { H with cap := n }
theorem RtD.capped (h : RtD bs H) {n : Nat} (hn : H.cap <= n) : RtD bs (H.capped n) := ⟨⟨h.rt.walk, h.rt.all_, h.rt.chk, Nat.le_trans h.rt.len hn⟩, h.dl, h.ho⟩
theorem aki (h : PH w q g base cap A c bs H) (n : Nat) (h1 : cap <= n) (h2 : n <= 16384) :
 Calls Tryz.prog 21 #[.pointer (some ⟨q, 0, none⟩), .int .i64 (n : Int)] w fun e w' => e = .returned (ah3 0) /\ PTurn g base n A (H.capped n) w w' := by
 have HC := hE0 (amm h.ar n h1 h2); have k0 := h.c0; have hlq := h.lt; have HR := hE0 (h.rd.capped (n := n) (by rw [h.cp]; exact h1)); clear h; go_enter Tryz.func21, Tryz.ntmps21
 go_wp2_with fail
 refine HC.out.mono ?_; rintro e w2 ⟨rfl, hbe⟩; have HF : Hid (PTurn g base n A (H.capped n) w w2) := ⟨_, hbe, HR.out⟩; clear hbe HC k0; go_wp2
 go_ret
 exact ⟨rfl, HF.out⟩
theorem ahY (h : PH w q g base cap A c bs H) :
 Calls Tryz.prog 19 #[.pointer (some ⟨q, 0, none⟩)] w fun e w' => e = .returned (.tuple #[]) /\ ∃ out, Became 79 g base cap A out w w' /\ Rt out H.rebuild := by
 obtain ⟨out, e, hR⟩ := h.rd.rt.rebuilt (by rw [h.cp]; exact h.c16); have hC := amB w g base cap c A bs _ h.ar h.b62 h.len e; dsimp only [amg, aaz] at hC; have HC := hE0 hC; have k0 := h.c0; have hlq := h.lt; have HR := hE0 hR; clear h hC hR e; go_enter Tryz.func19, Tryz.ntmps19
 go_wp2_with fail
 refine HC.out.mono ?_; rintro e w2 ⟨rfl, hbe⟩; have HF := hE0 hbe; clear hbe HC k0; go_wp2
 go_end0
 exact ⟨rfl, out, HF.out, HR.out⟩
end
def aek (r : Rp) (A : Option Addr) (c : Nat) : Array Value := #[.int .i64 r.code, .int .u64 (r.hd : Int), .int .u64 (r.n : Int), .slice A r.b.length c, .int .i64 (r.st.used : Int), .int .i64 (r.st.free : Int), .int .i64 (r.st.bytes : Int), .int .i64 (r.st.len : Int), .int .i64 (r.st.cap : Int)]
def rpV (r : Rp) (A : Option Addr) (c : Nat) : Value := .agg (aek r A c)
def rp0 : Array Value := #[.int .i64 0, .int .u64 0, .int .u64 0, .slice none 0 0, .int .i64 0, .int .i64 0, .int .i64 0, .int .i64 0, .int .i64 0]
def adx (r : Rp) (w : World) (e : Ending) (w' : World) : Prop := ∃ A' c', e = .returned (rpV r A' c') /\ w'.ownsRow w.heap.size 5 1 (.slice A' r.b.length c') r.b.length (r.b.map bv)
def aa6 (op : Int) (p n m a : Nat) (B : Option Addr) (bl k : Nat) : Value := .agg #[.int .i64 op, .int .u64 (p : Int), .int .u64 (n : Int), .int .u64 (m : Int), .int .u64 (a : Int), .slice B bl k]
section
variable {w w' w4 w5 : World} {q g base cap c : Nat} {A : Option Addr} {bs out : List UInt8} {H H' : Hp}
theorem aah {x0 x1 x2 x3 x4 x5 x6 x7 x8 : Value} {g : Nat} {t : TypeId} (h : w.heap[g]? = some (.cells #[x0, x1, x2, x3, x4, x5, x6, x7, x8] t (0, 0))) :
 (w.cell? ⟨g, 0, none⟩ = some x0 /\ w.cell? ⟨g, 1, none⟩ = some x1 /\ w.cell? ⟨g, 2, none⟩ = some x2 /\ w.cell? ⟨g, 3, none⟩ = some x3 /\ w.cell? ⟨g, 4, none⟩ = some x4 /\ w.cell? ⟨g, 5, none⟩ = some x5 /\ w.cell? ⟨g, 6, none⟩ = some x6 /\ w.cell? ⟨g, 7, none⟩ = some x7 /\ w.cell? ⟨g, 8, none⟩ = some x8) /\
 (w.frozen? ⟨g, 0, none⟩ = false /\ w.frozen? ⟨g, 1, none⟩ = false /\ w.frozen? ⟨g, 2, none⟩ = false /\ w.frozen? ⟨g, 3, none⟩ = false /\ w.frozen? ⟨g, 4, none⟩ = false /\ w.frozen? ⟨g, 5, none⟩ = false /\ w.frozen? ⟨g, 6, none⟩ = false /\ w.frozen? ⟨g, 7, none⟩ = false /\ w.frozen? ⟨g, 8, none⟩ = false) := by
 refine ⟨⟨?_, ?_, ?_, ?_, ?_, ?_, ?_, ?_, ?_⟩, frozen_of_row w g 0 _ _ h, frozen_of_row w g 1 _ _ h, frozen_of_row w g 2 _ _ h, frozen_of_row w g 3 _ _ h, frozen_of_row w g 4 _ _ h, frozen_of_row w g 5 _ _ h, frozen_of_row w g 6 _ _ h, frozen_of_row w g 7 _ _ h, frozen_of_row w g 8 _ _ h⟩
 · rw [cell_of_row w g 0 _ _ (0, 0) h]; rfl
 · rw [cell_of_row w g 1 _ _ (0, 0) h]; rfl
 · rw [cell_of_row w g 2 _ _ (0, 0) h]; rfl
 · rw [cell_of_row w g 3 _ _ (0, 0) h]; rfl
 · rw [cell_of_row w g 4 _ _ (0, 0) h]; rfl
 · rw [cell_of_row w g 5 _ _ (0, 0) h]; rfl
 · rw [cell_of_row w g 6 _ _ (0, 0) h]; rfl
 · rw [cell_of_row w g 7 _ _ (0, 0) h]; rfl
 · rw [cell_of_row w g 8 _ _ (0, 0) h]; rfl
theorem aaB {x0 x1 x2 x3 x4 x5 : Value} {g : Nat} {t : TypeId} (h : w.heap[g]? = some (.cells #[x0, x1, x2, x3, x4, x5] t (0, 0))) :
 w.cell? ⟨g, 0, none⟩ = some x0 /\ w.cell? ⟨g, 1, none⟩ = some x1 /\ w.cell? ⟨g, 2, none⟩ = some x2 /\ w.cell? ⟨g, 3, none⟩ = some x3 /\ w.cell? ⟨g, 4, none⟩ = some x4 /\ w.cell? ⟨g, 5, none⟩ = some x5 := by
 refine ⟨?_, ?_, ?_, ?_, ?_, ?_⟩
 · rw [cell_of_row w g 0 _ _ (0, 0) h]; rfl
 · rw [cell_of_row w g 1 _ _ (0, 0) h]; rfl
 · rw [cell_of_row w g 2 _ _ (0, 0) h]; rfl
 · rw [cell_of_row w g 3 _ _ (0, 0) h]; rfl
 · rw [cell_of_row w g 4 _ _ (0, 0) h]; rfl
 · rw [cell_of_row w g 5 _ _ (0, 0) h]; rfl
def ad1 (w : World) (g : Nat) (x0 x1 x2 x3 x4 x5 x6 x7 x8 : Value) : World := ((((((((w.setCell ⟨g, 0, none⟩ x0).setCell ⟨g, 1, none⟩ x1).setCell ⟨g, 2, none⟩ x2).setCell ⟨g, 3, none⟩ x3).setCell ⟨g, 4, none⟩ x4).setCell ⟨g, 5, none⟩ x5).setCell ⟨g, 6, none⟩ x6).setCell ⟨g, 7, none⟩ x7).setCell ⟨g, 8, none⟩ x8
theorem aa7 {y0 y1 y2 y3 y4 y5 y6 y7 y8 : Value} {g : Nat} {t : TypeId} (h : w.heap[g]? = some (.cells #[y0, y1, y2, y3, y4, y5, y6, y7, y8] t (0, 0))) (x0 x1 x2 x3 x4 x5 x6 x7 x8 : Value) :
 (ad1 w g x0 x1 x2 x3 x4 x5 x6 x7 x8).heap[g]? = some (.cells #[x0, x1, x2, x3, x4, x5, x6, x7, x8] t (0, 0)) := by
 unfold ad1; have h1 := heap_setCell_same _ g 0 _ _ x0 h; have h1 : (_ : Option Obj) = some (.cells #[x0, y1, y2, y3, y4, y5, y6, y7, y8] t (0, 0)) := h1; have h2 := heap_setCell_same _ g 1 _ _ x1 h1; have h2 : (_ : Option Obj) = some (.cells #[x0, x1, y2, y3, y4, y5, y6, y7, y8] t (0, 0)) := h2; have h3 := heap_setCell_same _ g 2 _ _ x2 h2; have h3 : (_ : Option Obj) = some (.cells #[x0, x1, x2, y3, y4, y5, y6, y7, y8] t (0, 0)) := h3; have h4 := heap_setCell_same _ g 3 _ _ x3 h3; have h4 : (_ : Option Obj) = some (.cells #[x0, x1, x2, x3, y4, y5, y6, y7, y8] t (0, 0)) := h4; have h5 := heap_setCell_same _ g 4 _ _ x4 h4; have h5 : (_ : Option Obj) = some (.cells #[x0, x1, x2, x3, x4, y5, y6, y7, y8] t (0, 0)) := h5; have h6 := heap_setCell_same _ g 5 _ _ x5 h5; have h6 : (_ : Option Obj) = some (.cells #[x0, x1, x2, x3, x4, x5, y6, y7, y8] t (0, 0)) := h6; have h7 := heap_setCell_same _ g 6 _ _ x6 h6; have h7 : (_ : Option Obj) = some (.cells #[x0, x1, x2, x3, x4, x5, x6, y7, y8] t (0, 0)) := h7; have h8 := heap_setCell_same _ g 7 _ _ x7 h7; have h8 : (_ : Option Obj) = some (.cells #[x0, x1, x2, x3, x4, x5, x6, x7, y8] t (0, 0)) := h8; have h9 := heap_setCell_same _ g 8 _ _ x8 h8; have h9 : (_ : Option Obj) = some (.cells #[x0, x1, x2, x3, x4, x5, x6, x7, x8] t (0, 0)) := h9; exact h9
theorem aaE (w : World) (g : Nat) (x0 x1 x2 x3 x4 x5 x6 x7 x8 : Value) : Tch (fun k => k = g) w (ad1 w g x0 x1 x2 x3 x4 x5 x6 x7 x8) := by
 unfold ad1; have t : ∀ (W : World) (i : Nat) (x : Value), Tch (fun k => k = g) w W -> Tch (fun k => k = g) w (W.setCell ⟨g, i, none⟩ x) := fun W i x h => h.trans (Tch.set (S := fun k => k = g) W ⟨g, i, none⟩ x rfl) (fun _ _ h => h); exact t _ _ _ (t _ _ _ (t _ _ _ (t _ _ _ (t _ _ _ (t _ _ _ (t _ _ _ (t _ _ _ (t _ _ _ (Tch.refl _ _)))))))))
theorem aaN {fn : Func} {R : Ending -> World -> Prop} {a : Act} {w : World} {p : Tmp} {g : Nat} {x0 x1 x2 x3 x4 x5 x6 x7 x8 : Value} (hres : fn.results = #[.cell p 45]) (hp : a.tmps.getD p undef = .pointer (some ⟨g, 0, none⟩)) (hd : a.defers = [])
 (hg : w.heap[g]? = some (.cells #[x0, x1, x2, x3, x4, x5, x6, x7, x8] 45 (0, 0))) (hR : R (.returned (.agg #[x0, x1, x2, x3, x4, x5, x6, x7, x8])) w) : bodyPost Tryz.prog fn R .ret a w := by
 refine bodyPost_ret (v := .agg #[x0, x1, x2, x3, x4, x5, x6, x7, x8]) ?_ hd hR; exact results_cell_row hres _ _ g _ _ _ _ hp hg rfl rfl rfl
theorem al4 (h : Ar w 79 g base cap A c bs) {k : Nat} {cs : Array Value} (hk : w.heap[k]? = some (.cells cs 45 (0, 0))) : ¬ abg g A k := by
 rintro (rfl | ⟨a, ea, rfl⟩)
 · have h1 := h.obj; rw [hk] at h1; injection h1 with h1; injection h1 with _ h2 _; exact absurd h2 (by decide)
 · obtain ⟨h', e, cur, hg, _⟩ := h.row ea; subst e; rw [hk] at hg; injection hg with hg; injection hg with _ h2 _; exact absurd h2 (by decide)
theorem PTurn.near {S : Nat -> Prop} (h : PTurn g base cap A H' w w4) (ht : Tch S w4 w5) (hS : ∀ k, S k -> w.heap.size <= k /\ ∃ cs, w4.heap[k]? = some (.cells cs 45 (0, 0))) : PTurn g base cap A H' w w5 := by
 obtain ⟨out, ⟨A4, c4, a4, t4, m4⟩, rd⟩ := h; refine ⟨out, ⟨A4, c4, a4.tch ht (fun k hk hs => ?_), t4.trans ht (fun i hi hs => ?_), m4⟩, rd⟩
 · obtain ⟨_, cs, hcs⟩ := hS k hs; exact al4 a4 hcs hk
 · have := (hS i hs).1; omega
theorem acb {w w' : World} {base n size : Nat} {t : TypeId} {v : Value} {xs : List Value} (h : w.ownsRow base t size v n xs) (hk : ∀ k, v.ownBlock = some k -> w'.heap[k]? = w.heap[k]?) : w'.ownsRow base t size v n xs := by
 refine ⟨h.1, ?_⟩; rcases h.2 with h2 | ⟨g, cap, cur, hv, hg, hh, r⟩
 · exact .inl h2
 · exact .inr ⟨g, cap, cur, hv, hg, (hk g (by rw [hv]; rfl)).trans hh, r⟩
theorem PTurn.after {w1 : World} (h : PTurn g base cap A H' w1 w4) (hb : Below w.heap.size w w1) : PTurn g base cap A H' w w4 := by
 obtain ⟨out, hbe, hr⟩ := h; exact ⟨out, hbe.after hb, hr⟩
theorem PTurn.tch (h : PTurn g base cap A H' w w4) : Tch (abg g A) w w4 := by
 obtain ⟨_, ⟨_, _, _, t, _⟩, _⟩ := h; exact t
theorem PTurn.ends {b4 b5 : Nat} (h : PTurn g base cap A H' w w4) (m4 : w4.heap[b4]? = some (.cells rp0 45 (0, 0))) (m5 : w4.heap[b5]? = some (.cells rp0 45 (0, 0))) (l4 : w.heap.size <= b4) (l5 : w.heap.size <= b5) (ht : Tch (fun k => k = b4 \/ k = b5) w4 w5) : PTurn g base cap A H' w w5 :=
 h.near ht (by
  rintro k (rfl | rfl)
  · exact ⟨l4, _, m4⟩
  · exact ⟨l5, _, m5⟩)
theorem ap1 {y0 y1 y2 y3 y4 y5 y6 y7 y8 : Value} {g : Nat} {t : TypeId} (h : w.heap[g]? = some (.cells #[y0, y1, y2, y3, y4, y5, y6, y7, y8] t (0, 0))) (x4 x5 x6 x7 x8 : Value) :
 (((((w.setCell ⟨g, 4, none⟩ x4).setCell ⟨g, 5, none⟩ x5).setCell ⟨g, 6, none⟩ x6).setCell ⟨g, 7, none⟩ x7).setCell ⟨g, 8, none⟩ x8).heap[g]? = some (.cells #[y0, y1, y2, y3, x4, x5, x6, x7, x8] t (0, 0)) := by
 have h1 := heap_setCell_same w g 4 _ _ x4 h; have h2 := heap_setCell_same _ g 5 _ _ x5 h1; have h3 := heap_setCell_same _ g 6 _ _ x6 h2; have h4 := heap_setCell_same _ g 7 _ _ x7 h3; have h5 := heap_setCell_same _ g 8 _ _ x8 h4; rw [h5]; rfl
theorem an4 (w : World) (g : Nat) (x4 x5 x6 x7 x8 : Value) : Tch (fun k => k = g) w (((((w.setCell ⟨g, 4, none⟩ x4).setCell ⟨g, 5, none⟩ x5).setCell ⟨g, 6, none⟩ x6).setCell ⟨g, 7, none⟩ x7).setCell ⟨g, 8, none⟩ x8) := by
 have t : ∀ (W : World) (i : Nat) (x : Value), Tch (fun k => k = g) w W -> Tch (fun k => k = g) w (W.setCell ⟨g, i, none⟩ x) := fun W i x h => h.trans (Tch.set (S := fun k => k = g) W ⟨g, i, none⟩ x rfl) (fun _ _ h => h); exact t _ _ _ (t _ _ _ (t _ _ _ (t _ _ _ (t _ _ _ (Tch.refl _ _)))))
structure Do3 (w w3 : World) (b3 b4 b5 : Nat) (cs : Array Value) : Prop where
 bel : Below w.heap.size w w3
 n3 : w3.heap[b3]? = some (.cells cs 38 (0, 0))
 n4 : w3.heap[b4]? = some (.cells rp0 45 (0, 0))
 n5 : w3.heap[b5]? = some (.cells rp0 45 (0, 0))
 l3 : w.heap.size <= b3
 l4 : w.heap.size <= b4
 l5 : w.heap.size <= b5
 ne : b4 ≠ b5
theorem Do3.made (w : World) (cs : Array Value) : Do3 w (((w.alloc (.cells cs 38)).alloc (.cells rp0 45)).alloc (.cells rp0 45)) w.heap.size (w.alloc (.cells cs 38)).heap.size ((w.alloc (.cells cs 38)).alloc (.cells rp0 45)).heap.size cs := by
 obtain ⟨w1, hw1⟩ := nmE (w.alloc (.cells cs 38)); have b1 := abE hw1; have n1 := anE hw1; rw [hw1]; obtain ⟨w2, hw2⟩ := nmE (w1.alloc (.cells rp0 45)); have b2 := abE hw2; have n2 := anE hw2; rw [hw2]; have n12 := (b2.block _ (aab n1)).trans n1; obtain ⟨w3, hw3⟩ := nmE (w2.alloc (.cells rp0 45)); have b3 := abE hw3; have n3 := anE hw3; rw [hw3]; have l12 := aab n2; exact ⟨b1.trans ((b2.mono b1.size).trans (b3.mono (Nat.le_trans b1.size b2.size))), (b3.block _ (aab n12)).trans n12, (b3.block _ l12).trans n2, n3, Nat.le_refl _, b1.size, Nat.le_trans b1.size b2.size, by omega⟩
theorem anB (p n m a : Nat) (b : List UInt8) : H.doC 0 p n m a b = (Rp.err 1, H) := by
 unfold Hp.doC; rw [if_neg (by decide), if_neg (by decide), if_neg (by decide), if_neg (by decide), if_neg (by decide), if_neg (by decide)]
theorem anC (p n m a : Nat) (b : List UInt8) : H.doC 1 p n m a b = akq (H.get n 165) := by unfold Hp.doC; rw [if_pos rfl]
theorem anD (p n m a : Nat) (b : List UInt8) : H.doC 2 p n m a b = akq (H.calloc n m) := by unfold Hp.doC; rw [if_neg (by decide), if_pos rfl]
theorem anF (p n m a : Nat) (b : List UInt8) : H.doC 3 p n m a b = (Rp.err (H.freeP p).1, (H.freeP p).2) := by
 unfold Hp.doC Hp.freeP; rw [if_neg (by decide), if_neg (by decide), if_pos rfl]
 cases H.handleB p <;> rfl
theorem anG (p n m a : Nat) (b : List UInt8) : H.doC 4 p n m a b = akq (H.realloc p n) := by unfold Hp.doC; rw [if_neg (by decide), if_neg (by decide), if_neg (by decide), if_pos rfl]
theorem apc (p n m a : Nat) (b : List UInt8) : H.doC 5 p n m a b = (⟨(H.usableP p).2, 0, (H.usableP p).1, [], St5.none⟩, H) := by
 unfold Hp.doC Hp.heldC Hp.usableP; rw [if_neg (by decide), if_neg (by decide), if_neg (by decide), if_neg (by decide), if_pos (.inl rfl)]
 cases H.handleB p with
 | none => rfl
 | some i => dsimp only; rw [if_pos rfl]
theorem apd (p n m a : Nat) (b : List UInt8) : H.doC 6 p n m a b = (⟨(H.readP p a n).2, 0, 0, (H.readP p a n).1, St5.none⟩, H) := by
 unfold Hp.doC Hp.heldC Hp.readP; rw [if_neg (by decide), if_neg (by decide), if_neg (by decide), if_neg (by decide), if_pos (.inr (.inl rfl))]
 cases H.handleB p with
 | none => rfl
 | some i =>
  dsimp only; rw [if_neg (by decide), if_neg (show ¬ (6 : Int) = 7 by decide)]; by_cases h : (H.ds.getD i aaR).2.length < a + n
  · rw [if_pos h, if_pos h]; rfl
  · rw [if_neg h, if_neg h, if_pos rfl]
theorem ape (p n m a : Nat) (b : List UInt8) : H.doC 7 p n m a b = (Rp.err (H.writeP p a b).1, (H.writeP p a b).2) := by
 unfold Hp.doC Hp.heldC Hp.writeP; rw [if_neg (by decide), if_neg (by decide), if_neg (by decide), if_neg (by decide), if_pos (.inr (.inr rfl))]
 cases H.handleB p with
 | none => rfl
 | some i =>
  dsimp only; rw [if_neg (by decide), if_pos (show (7 : Int) = 7 from rfl)]; by_cases h : (H.ds.getD i aaR).2.length < a + b.length
  · rw [if_pos h, if_pos h]
  · rw [if_neg h, if_neg h, if_neg (by decide)]
theorem anH (p n m a : Nat) (b : List UInt8) : H.doC 8 p n m a b = (⟨0, 0, 0, [], H.stats⟩, H) := by
 unfold Hp.doC; rw [if_neg (by decide), if_neg (by decide), if_neg (by decide), if_neg (by decide), if_neg (by decide), if_pos rfl]
end
theorem aqw {w : World} {q g base cap c : Nat} {A : Option Addr} {bs : List UInt8} {H : Hp} (h : PH w q g base cap A c bs H) (hE : ET w) (h0 : ¬ abg g A 0) (p n m a bl k : Nat) (B : Option Addr) (b : List UInt8) :
 Calls Tryz.prog 11 #[.pointer (some ⟨q, 0, none⟩), aa6 0 p n m a B bl k] w fun e w' => adx (H.doC 0 p n m a b).1 w e w' /\ PTurn g base cap A (H.doC 0 p n m a b).2 w w' := by
 rw [anB]; unfold aa6; have hd := Do3.made w #[.int .i64 0, .int .u64 (p : Int), .int .u64 (n : Int), .int .u64 (m : Int), .int .u64 (a : Int), .slice B bl k]; obtain ⟨w1, hw1⟩ := nmE (w.alloc (.cells #[.int .i64 0, .int .u64 (p : Int), .int .u64 (n : Int), .int .u64 (m : Int), .int .u64 (a : Int), .slice B bl k] 38)); rw [hw1] at hd; obtain ⟨w2, hw2⟩ := nmE (w1.alloc (.cells rp0 45)); rw [hw2] at hd; obtain ⟨w3, hw3⟩ := nmE (w2.alloc (.cells rp0 45)); rw [hw3] at hd; unfold rp0 at hw2 hw3; obtain ⟨z0, z1, z2, z3, z4, z5⟩ := aaB hd.n3; have hz := aaa hd.n3; have h3 := h.below hd.bel; have hk : ∀ k, w.heap.size <= k -> ¬ abg g A k := fun k hk hf => by have := h.ar.foot_lt hf; omega
 have HD := hE0 hd; have HH := hE0 h; have HK := hE0 hk; have HW1 := hE0 hw1; have HW2 := hE0 hw2; have HW3 := hE0 hw3; have HE := hE0 hE; have H00 := hE0 h0; clear h hd h3 hE hk hw1 hw2 hw3 h0; go_enter Tryz.func11, Tryz.ntmps11
 have T4 : PTurn g base cap A H w w3 := HH.out.stay HD.out.bel; have E4 : ET w3 := HE.out.keep (T4.tch.block 0 HE.out.lt H00.out); have t34 : Tch (abg g A) w3 w3 := Tch.refl _ _; have m4 := (t34.block _ (aab HD.out.n4) (HK.out _ HD.out.l4)).trans HD.out.n4; have m5 := (t34.block _ (aab HD.out.n5) (HK.out _ HD.out.l5)).trans HD.out.n5; obtain ⟨⟨y0, y1, y2, y3, y4, y5, y6, y7, y8⟩, f0, f1, f2, f3, f4, f5, f6, f7, f8⟩ := aah m5; have hy := aaa m5; have n5 : w3.heap[w2.heap.size]? = some (.cells #[.int .i64 0, .int .u64 0, .int .u64 0, .slice none 0 0, .int .i64 0, .int .i64 0, .int .i64 0, .int .i64 0, .int .i64 0] 45 (0, 0)) := m5; have t5 : Tch (fun k => k = w2.heap.size) w3 w3 := Tch.refl _ _; have E5 : ET w3 := E4.keep (t5.block 0 E4.lt (fun e => by
  have e : 0 = w2.heap.size := e; have h1 := HD.out.l5; have h2 := HE.out.lt; omega))
 have m5' : w3.heap[w1.heap.size]? = some (.cells rp0 45 (0, 0)) := (t5.block _ (aab m4) HD.out.ne).trans m4; have HNM := hE0 (afp E5 1); have HT5 := hE0 t5; have HN5 := hE0 n5; have HM5 := hE0 m5'; have HM4 := hE0 m4; have HM45 := hE0 m5; have HT4 := hE0 T4; clear E4 E5 m4 m5 m5' n5 t5 T4; go_wp2_with (first | (rw [HW1.out]) | (rw [HW2.out]) | (rw [HW3.out]) | fail)
 refine HNM.out.mono ?_; rintro e w6 ⟨rfl, hb6⟩; have n6 := (hb6.block _ (aab HN5.out)).trans HN5.out; have m6 := (hb6.block _ (aab HM5.out)).trans HM5.out; obtain ⟨w7, hw7⟩ := nmE (w6.setCell ⟨w2.heap.size, 0, none⟩ (.int .i64 1)); have n7 : w7.heap[w2.heap.size]? = some (.cells #[.int .i64 1, .int .u64 0, .int .u64 0, .slice none 0 0, .int .i64 0, .int .i64 0, .int .i64 0, .int .i64 0, .int .i64 0] 45 (0, 0)) := by rw [<- hw7]; exact heap_setCell_same w6 w2.heap.size 0 _ _ _ n6
 have m7 : w7.heap[w1.heap.size]? = some (.cells rp0 45 (0, 0)) := by rw [<- hw7]; exact (Below.heap_setCell w6 ⟨w2.heap.size, 0, none⟩ _ w1.heap.size HD.out.ne).trans m6
 have t7 : Tch (fun k => k = w2.heap.size) w6 w7 := by rw [<- hw7]; exact Tch.set (S := fun k => k = w2.heap.size) w6 ⟨w2.heap.size, 0, none⟩ _ rfl
 have tf : Tch (fun k => k = w1.heap.size \/ k = w2.heap.size) w3 (ad1 w7 w1.heap.size (.int .i64 1) (.int .u64 0) (.int .u64 0) (.slice none 0 0) (.int .i64 0) (.int .i64 0) (.int .i64 0) (.int .i64 0) (.int .i64 0)) :=
  (((((Tch.refl (fun k => k = w1.heap.size \/ k = w2.heap.size) w3).trans HT5.out (fun _ _ e => .inr e)).trans (Tch.of_below (S := fun _ => False) hb6) (fun _ _ h => h.elim)).trans t7 (fun _ _ e => .inr e)).trans (aaE w7 w1.heap.size (.int .i64 1) (.int .u64 0) (.int .u64 0) (.slice none 0 0) (.int .i64 0) (.int .i64 0) (.int .i64 0) (.int .i64 0) (.int .i64 0)) (fun _ _ e => .inl e))
 have TF := hE0 tf; have MF := hE0 (aa7 m7 (.int .i64 1) (.int .u64 0) (.int .u64 0) (.slice none 0 0) (.int .i64 0) (.int .i64 0) (.int .i64 0) (.int .i64 0) (.int .i64 0)); clear y0 y1 y2 y3 y4 y5 y6 y7 y8 f0 f1 f2 f3 f4 f5 f6 f7 f8 hy; obtain ⟨⟨y0, y1, y2, y3, y4, y5, y6, y7, y8⟩, f0, f1, f2, f3, f4, f5, f6, f7, f8⟩ := aah n6; have hy6 := aaa n6; have HW7 := hE0 hw7; obtain ⟨⟨u0, u1, u2, u3, u4, u5, u6, u7, u8⟩, _⟩ := aah n7; have hy7 := aaa n7; obtain ⟨⟨v0, v1, v2, v3, v4, v5, v6, v7, v8⟩, e0, e1, e2, e3, e4, e5, e6, e7, e8⟩ := aah m7; have hm7 := aaa m7; clear hb6 n6 m6 hw7 n7 m7 t7 tf HNM HT5 HN5 HM5; go_wp2_with (first | (rw [HW7.out]) | fail)
 (try simp only [Exit.inBlock, Exit.then])
 refine aaN (g := w1.heap.size) Tryz.results11 ?_ ?_ MF.out ?_
 · rfl
 · rfl
 · exact ⟨⟨none, 0, rfl, World.ownsRow_nil _ _ _ _⟩, HT4.out.ends HM4.out HM45.out HD.out.l4 HD.out.l5 TF.out⟩
theorem aqx {w : World} {q g base cap c : Nat} {A : Option Addr} {bs : List UInt8} {H : Hp} (h : PH w q g base cap A c bs H) (hE : ET w) (h0 : ¬ abg g A 0) (p n m a bl k : Nat) (B : Option Addr) (b : List UInt8) (hn : n < 18446744073709551616) :
 Calls Tryz.prog 11 #[.pointer (some ⟨q, 0, none⟩), aa6 1 p n m a B bl k] w fun e w' => adx (H.doC 1 p n m a b).1 w e w' /\ PTurn g base cap A (H.doC 1 p n m a b).2 w w' := by
 rw [anC]; unfold aa6; have hd := Do3.made w #[.int .i64 1, .int .u64 (p : Int), .int .u64 (n : Int), .int .u64 (m : Int), .int .u64 (a : Int), .slice B bl k]; obtain ⟨w1, hw1⟩ := nmE (w.alloc (.cells #[.int .i64 1, .int .u64 (p : Int), .int .u64 (n : Int), .int .u64 (m : Int), .int .u64 (a : Int), .slice B bl k] 38)); rw [hw1] at hd; obtain ⟨w2, hw2⟩ := nmE (w1.alloc (.cells rp0 45)); rw [hw2] at hd; obtain ⟨w3, hw3⟩ := nmE (w2.alloc (.cells rp0 45)); rw [hw3] at hd; unfold rp0 at hw2 hw3; obtain ⟨z0, z1, z2, z3, z4, z5⟩ := aaB hd.n3; have hz := aaa hd.n3; have h3 := h.below hd.bel; have hk : ∀ k, w.heap.size <= k -> ¬ abg g A k := fun k hk hf => by have := h.ar.foot_lt hf; omega
 have hO := afn h3 n hn; obtain ⟨r, hr⟩ := nmE (H.get n 165); rw [hr] at hO ⊢; obtain ⟨⟨rh, rk⟩, H'⟩ := r; dsimp only [agX] at hO; dsimp only [akq]; have HO := hE0 hO; have HD := hE0 hd; have HH := hE0 h; have HK := hE0 hk; have HW1 := hE0 hw1; have HW2 := hE0 hw2; have HW3 := hE0 hw3; have HE := hE0 hE; have H00 := hE0 h0; clear h hd h3 hE hk hw1 hw2 hw3 h0 hO hr; go_enter Tryz.func11, Tryz.ntmps11
 go_wp2_with (first | (rw [HW1.out]) | (rw [HW2.out]) | (rw [HW3.out]) | fail)
 refine HO.out.mono ?_; rintro e w4 ⟨rfl, ht⟩; have T4 : PTurn g base cap A H' w w4 := ht.after HD.out.bel; have E4 : ET w4 := HE.out.keep (T4.tch.block 0 HE.out.lt H00.out); have t34 : Tch (abg g A) w3 w4 := ht.tch; have m4 := (t34.block _ (aab HD.out.n4) (HK.out _ HD.out.l4)).trans HD.out.n4; have m5 := (t34.block _ (aab HD.out.n5) (HK.out _ HD.out.l5)).trans HD.out.n5; obtain ⟨⟨y0, y1, y2, y3, y4, y5, y6, y7, y8⟩, f0, f1, f2, f3, f4, f5, f6, f7, f8⟩ := aah m5; have hy := aaa m5; clear z0 z1 z2 z3 z4 z5 hz HO t34; obtain ⟨w5, hw5⟩ := nmE (w4.setCell ⟨w2.heap.size, 1, none⟩ (.int .u64 (rh : Int))); have n5 : w5.heap[w2.heap.size]? = some (.cells #[.int .i64 0, .int .u64 (rh : Int), .int .u64 0, .slice none 0 0, .int .i64 0, .int .i64 0, .int .i64 0, .int .i64 0, .int .i64 0] 45 (0, 0)) := by rw [<- hw5]; exact heap_setCell_same w4 w2.heap.size 1 _ _ _ m5
 have t5 : Tch (fun k => k = w2.heap.size) w4 w5 := by rw [<- hw5]; exact Tch.set (S := fun k => k = w2.heap.size) w4 ⟨w2.heap.size, 1, none⟩ _ rfl
 have HW5 := hE0 hw5; clear hw5; have E5 : ET w5 := E4.keep (t5.block 0 E4.lt (fun e => by
  have e : 0 = w2.heap.size := e; have h1 := HD.out.l5; have h2 := HE.out.lt; omega))
 have m5' : w5.heap[w1.heap.size]? = some (.cells rp0 45 (0, 0)) := (t5.block _ (aab m4) HD.out.ne).trans m4; have HNM := hE0 (ab1 E5 rk); have HT5 := hE0 t5; have HN5 := hE0 n5; have HM5 := hE0 m5'; have HM4 := hE0 m4; have HM45 := hE0 m5; have HT4 := hE0 T4; clear E4 E5 m4 m5 m5' n5 t5 T4; go_wp2_with (first | (rw [HW5.out]) | fail)
 refine HNM.out.mono ?_; rintro e w6 ⟨rfl, hb6⟩; have n6 := (hb6.block _ (aab HN5.out)).trans HN5.out; have m6 := (hb6.block _ (aab HM5.out)).trans HM5.out; obtain ⟨w7, hw7⟩ := nmE (w6.setCell ⟨w2.heap.size, 0, none⟩ (.int .i64 rk)); have n7 : w7.heap[w2.heap.size]? = some (.cells #[.int .i64 rk, .int .u64 (rh : Int), .int .u64 0, .slice none 0 0, .int .i64 0, .int .i64 0, .int .i64 0, .int .i64 0, .int .i64 0] 45 (0, 0)) := by rw [<- hw7]; exact heap_setCell_same w6 w2.heap.size 0 _ _ _ n6
 have m7 : w7.heap[w1.heap.size]? = some (.cells rp0 45 (0, 0)) := by rw [<- hw7]; exact (Below.heap_setCell w6 ⟨w2.heap.size, 0, none⟩ _ w1.heap.size HD.out.ne).trans m6
 have t7 : Tch (fun k => k = w2.heap.size) w6 w7 := by rw [<- hw7]; exact Tch.set (S := fun k => k = w2.heap.size) w6 ⟨w2.heap.size, 0, none⟩ _ rfl
 have tf : Tch (fun k => k = w1.heap.size \/ k = w2.heap.size) w4 (ad1 w7 w1.heap.size (.int .i64 rk) (.int .u64 (rh : Int)) (.int .u64 0) (.slice none 0 0) (.int .i64 0) (.int .i64 0) (.int .i64 0) (.int .i64 0) (.int .i64 0)) :=
  (((((Tch.refl (fun k => k = w1.heap.size \/ k = w2.heap.size) w4).trans HT5.out (fun _ _ e => .inr e)).trans (Tch.of_below (S := fun _ => False) hb6) (fun _ _ h => h.elim)).trans t7 (fun _ _ e => .inr e)).trans (aaE w7 w1.heap.size (.int .i64 rk) (.int .u64 (rh : Int)) (.int .u64 0) (.slice none 0 0) (.int .i64 0) (.int .i64 0) (.int .i64 0) (.int .i64 0) (.int .i64 0)) (fun _ _ e => .inl e))
 have TF := hE0 tf; have MF := hE0 (aa7 m7 (.int .i64 rk) (.int .u64 (rh : Int)) (.int .u64 0) (.slice none 0 0) (.int .i64 0) (.int .i64 0) (.int .i64 0) (.int .i64 0) (.int .i64 0)); clear y0 y1 y2 y3 y4 y5 y6 y7 y8 f0 f1 f2 f3 f4 f5 f6 f7 f8 hy; obtain ⟨⟨y0, y1, y2, y3, y4, y5, y6, y7, y8⟩, f0, f1, f2, f3, f4, f5, f6, f7, f8⟩ := aah n6; have hy6 := aaa n6; have HW7 := hE0 hw7; obtain ⟨⟨u0, u1, u2, u3, u4, u5, u6, u7, u8⟩, _⟩ := aah n7; have hy7 := aaa n7; obtain ⟨⟨v0, v1, v2, v3, v4, v5, v6, v7, v8⟩, e0, e1, e2, e3, e4, e5, e6, e7, e8⟩ := aah m7; have hm7 := aaa m7; clear hb6 n6 m6 hw7 n7 m7 t7 tf HNM HT5 HN5 HM5; go_wp2_with (first | (rw [HW7.out]) | fail)
 (try simp only [Exit.inBlock, Exit.then])
 refine aaN (g := w1.heap.size) Tryz.results11 ?_ ?_ MF.out ?_
 · rfl
 · rfl
 · exact ⟨⟨none, 0, rfl, World.ownsRow_nil _ _ _ _⟩, HT4.out.ends HM4.out HM45.out HD.out.l4 HD.out.l5 TF.out⟩
theorem aqy {w : World} {q g base cap c : Nat} {A : Option Addr} {bs : List UInt8} {H : Hp} (h : PH w q g base cap A c bs H) (hE : ET w) (h0 : ¬ abg g A 0) (p n m a bl k : Nat) (B : Option Addr) (b : List UInt8) (hn : n < 18446744073709551616) (hm : m < 18446744073709551616) :
 Calls Tryz.prog 11 #[.pointer (some ⟨q, 0, none⟩), aa6 2 p n m a B bl k] w fun e w' => adx (H.doC 2 p n m a b).1 w e w' /\ PTurn g base cap A (H.doC 2 p n m a b).2 w w' := by
 rw [anD]; unfold aa6; have hd := Do3.made w #[.int .i64 2, .int .u64 (p : Int), .int .u64 (n : Int), .int .u64 (m : Int), .int .u64 (a : Int), .slice B bl k]; obtain ⟨w1, hw1⟩ := nmE (w.alloc (.cells #[.int .i64 2, .int .u64 (p : Int), .int .u64 (n : Int), .int .u64 (m : Int), .int .u64 (a : Int), .slice B bl k] 38)); rw [hw1] at hd; obtain ⟨w2, hw2⟩ := nmE (w1.alloc (.cells rp0 45)); rw [hw2] at hd; obtain ⟨w3, hw3⟩ := nmE (w2.alloc (.cells rp0 45)); rw [hw3] at hd; unfold rp0 at hw2 hw3; obtain ⟨z0, z1, z2, z3, z4, z5⟩ := aaB hd.n3; have hz := aaa hd.n3; have h3 := h.below hd.bel; have hk : ∀ k, w.heap.size <= k -> ¬ abg g A k := fun k hk hf => by have := h.ar.foot_lt hf; omega
 have hO := aeH h3 n m hn hm; obtain ⟨r, hr⟩ := nmE (H.calloc n m); rw [hr] at hO ⊢; obtain ⟨⟨rh, rk⟩, H'⟩ := r; dsimp only [agX] at hO; dsimp only [akq]; have HO := hE0 hO; have HD := hE0 hd; have HH := hE0 h; have HK := hE0 hk; have HW1 := hE0 hw1; have HW2 := hE0 hw2; have HW3 := hE0 hw3; have HE := hE0 hE; have H00 := hE0 h0; clear h hd h3 hE hk hw1 hw2 hw3 h0 hO hr; go_enter Tryz.func11, Tryz.ntmps11
 go_wp2_with (first | (rw [HW1.out]) | (rw [HW2.out]) | (rw [HW3.out]) | fail)
 refine HO.out.mono ?_; rintro e w4 ⟨rfl, ht⟩; have T4 : PTurn g base cap A H' w w4 := ht.after HD.out.bel; have E4 : ET w4 := HE.out.keep (T4.tch.block 0 HE.out.lt H00.out); have t34 : Tch (abg g A) w3 w4 := ht.tch; have m4 := (t34.block _ (aab HD.out.n4) (HK.out _ HD.out.l4)).trans HD.out.n4; have m5 := (t34.block _ (aab HD.out.n5) (HK.out _ HD.out.l5)).trans HD.out.n5; obtain ⟨⟨y0, y1, y2, y3, y4, y5, y6, y7, y8⟩, f0, f1, f2, f3, f4, f5, f6, f7, f8⟩ := aah m5; have hy := aaa m5; clear z0 z1 z2 z3 z4 z5 hz HO t34; obtain ⟨w5, hw5⟩ := nmE (w4.setCell ⟨w2.heap.size, 1, none⟩ (.int .u64 (rh : Int))); have n5 : w5.heap[w2.heap.size]? = some (.cells #[.int .i64 0, .int .u64 (rh : Int), .int .u64 0, .slice none 0 0, .int .i64 0, .int .i64 0, .int .i64 0, .int .i64 0, .int .i64 0] 45 (0, 0)) := by rw [<- hw5]; exact heap_setCell_same w4 w2.heap.size 1 _ _ _ m5
 have t5 : Tch (fun k => k = w2.heap.size) w4 w5 := by rw [<- hw5]; exact Tch.set (S := fun k => k = w2.heap.size) w4 ⟨w2.heap.size, 1, none⟩ _ rfl
 have HW5 := hE0 hw5; clear hw5; have E5 : ET w5 := E4.keep (t5.block 0 E4.lt (fun e => by
  have e : 0 = w2.heap.size := e; have h1 := HD.out.l5; have h2 := HE.out.lt; omega))
 have m5' : w5.heap[w1.heap.size]? = some (.cells rp0 45 (0, 0)) := (t5.block _ (aab m4) HD.out.ne).trans m4; have HNM := hE0 (ab1 E5 rk); have HT5 := hE0 t5; have HN5 := hE0 n5; have HM5 := hE0 m5'; have HM4 := hE0 m4; have HM45 := hE0 m5; have HT4 := hE0 T4; clear E4 E5 m4 m5 m5' n5 t5 T4; go_wp2_with (first | (rw [HW5.out]) | fail)
 refine HNM.out.mono ?_; rintro e w6 ⟨rfl, hb6⟩; have n6 := (hb6.block _ (aab HN5.out)).trans HN5.out; have m6 := (hb6.block _ (aab HM5.out)).trans HM5.out; obtain ⟨w7, hw7⟩ := nmE (w6.setCell ⟨w2.heap.size, 0, none⟩ (.int .i64 rk)); have n7 : w7.heap[w2.heap.size]? = some (.cells #[.int .i64 rk, .int .u64 (rh : Int), .int .u64 0, .slice none 0 0, .int .i64 0, .int .i64 0, .int .i64 0, .int .i64 0, .int .i64 0] 45 (0, 0)) := by rw [<- hw7]; exact heap_setCell_same w6 w2.heap.size 0 _ _ _ n6
 have m7 : w7.heap[w1.heap.size]? = some (.cells rp0 45 (0, 0)) := by rw [<- hw7]; exact (Below.heap_setCell w6 ⟨w2.heap.size, 0, none⟩ _ w1.heap.size HD.out.ne).trans m6
 have t7 : Tch (fun k => k = w2.heap.size) w6 w7 := by rw [<- hw7]; exact Tch.set (S := fun k => k = w2.heap.size) w6 ⟨w2.heap.size, 0, none⟩ _ rfl
 have tf : Tch (fun k => k = w1.heap.size \/ k = w2.heap.size) w4 (ad1 w7 w1.heap.size (.int .i64 rk) (.int .u64 (rh : Int)) (.int .u64 0) (.slice none 0 0) (.int .i64 0) (.int .i64 0) (.int .i64 0) (.int .i64 0) (.int .i64 0)) :=
  (((((Tch.refl (fun k => k = w1.heap.size \/ k = w2.heap.size) w4).trans HT5.out (fun _ _ e => .inr e)).trans (Tch.of_below (S := fun _ => False) hb6) (fun _ _ h => h.elim)).trans t7 (fun _ _ e => .inr e)).trans (aaE w7 w1.heap.size (.int .i64 rk) (.int .u64 (rh : Int)) (.int .u64 0) (.slice none 0 0) (.int .i64 0) (.int .i64 0) (.int .i64 0) (.int .i64 0) (.int .i64 0)) (fun _ _ e => .inl e))
 have TF := hE0 tf; have MF := hE0 (aa7 m7 (.int .i64 rk) (.int .u64 (rh : Int)) (.int .u64 0) (.slice none 0 0) (.int .i64 0) (.int .i64 0) (.int .i64 0) (.int .i64 0) (.int .i64 0)); clear y0 y1 y2 y3 y4 y5 y6 y7 y8 f0 f1 f2 f3 f4 f5 f6 f7 f8 hy; obtain ⟨⟨y0, y1, y2, y3, y4, y5, y6, y7, y8⟩, f0, f1, f2, f3, f4, f5, f6, f7, f8⟩ := aah n6; have hy6 := aaa n6; have HW7 := hE0 hw7; obtain ⟨⟨u0, u1, u2, u3, u4, u5, u6, u7, u8⟩, _⟩ := aah n7; have hy7 := aaa n7; obtain ⟨⟨v0, v1, v2, v3, v4, v5, v6, v7, v8⟩, e0, e1, e2, e3, e4, e5, e6, e7, e8⟩ := aah m7; have hm7 := aaa m7; clear hb6 n6 m6 hw7 n7 m7 t7 tf HNM HT5 HN5 HM5; go_wp2_with (first | (rw [HW7.out]) | fail)
 (try simp only [Exit.inBlock, Exit.then])
 refine aaN (g := w1.heap.size) Tryz.results11 ?_ ?_ MF.out ?_
 · rfl
 · rfl
 · exact ⟨⟨none, 0, rfl, World.ownsRow_nil _ _ _ _⟩, HT4.out.ends HM4.out HM45.out HD.out.l4 HD.out.l5 TF.out⟩
theorem aqz {w : World} {q g base cap c : Nat} {A : Option Addr} {bs : List UInt8} {H : Hp} (h : PH w q g base cap A c bs H) (hE : ET w) (h0 : ¬ abg g A 0) (p n m a bl k : Nat) (B : Option Addr) (b : List UInt8) (hp : p < 18446744073709551616) :
 Calls Tryz.prog 11 #[.pointer (some ⟨q, 0, none⟩), aa6 3 p n m a B bl k] w fun e w' => adx (H.doC 3 p n m a b).1 w e w' /\ PTurn g base cap A (H.doC 3 p n m a b).2 w w' := by
 rw [anF]; unfold aa6; have hd := Do3.made w #[.int .i64 3, .int .u64 (p : Int), .int .u64 (n : Int), .int .u64 (m : Int), .int .u64 (a : Int), .slice B bl k]; obtain ⟨w1, hw1⟩ := nmE (w.alloc (.cells #[.int .i64 3, .int .u64 (p : Int), .int .u64 (n : Int), .int .u64 (m : Int), .int .u64 (a : Int), .slice B bl k] 38)); rw [hw1] at hd; obtain ⟨w2, hw2⟩ := nmE (w1.alloc (.cells rp0 45)); rw [hw2] at hd; obtain ⟨w3, hw3⟩ := nmE (w2.alloc (.cells rp0 45)); rw [hw3] at hd; unfold rp0 at hw2 hw3; obtain ⟨z0, z1, z2, z3, z4, z5⟩ := aaB hd.n3; have hz := aaa hd.n3; have h3 := h.below hd.bel; have hk : ∀ k, w.heap.size <= k -> ¬ abg g A k := fun k hk hf => by have := h.ar.foot_lt hf; omega
 have hO := alQ h3 p hp; obtain ⟨r, hr⟩ := nmE (H.freeP p); rw [hr] at hO ⊢; obtain ⟨rk, H'⟩ := r; dsimp only at hO; dsimp only [Rp.err]; have HO := hE0 hO; have HD := hE0 hd; have HH := hE0 h; have HK := hE0 hk; have HW1 := hE0 hw1; have HW2 := hE0 hw2; have HW3 := hE0 hw3; have HE := hE0 hE; have H00 := hE0 h0; clear h hd h3 hE hk hw1 hw2 hw3 h0 hO hr; go_enter Tryz.func11, Tryz.ntmps11
 go_wp2_with (first | (rw [HW1.out]) | (rw [HW2.out]) | (rw [HW3.out]) | fail)
 refine HO.out.mono ?_; rintro e w4 ⟨rfl, ht⟩; have T4 : PTurn g base cap A H' w w4 := ht.after HD.out.bel; have E4 : ET w4 := HE.out.keep (T4.tch.block 0 HE.out.lt H00.out); have t34 : Tch (abg g A) w3 w4 := ht.tch; have m4 := (t34.block _ (aab HD.out.n4) (HK.out _ HD.out.l4)).trans HD.out.n4; have m5 := (t34.block _ (aab HD.out.n5) (HK.out _ HD.out.l5)).trans HD.out.n5; obtain ⟨⟨y0, y1, y2, y3, y4, y5, y6, y7, y8⟩, f0, f1, f2, f3, f4, f5, f6, f7, f8⟩ := aah m5; have hy := aaa m5; clear z0 z1 z2 z3 z4 z5 hz HO t34; have n5 : w4.heap[w2.heap.size]? = some (.cells #[.int .i64 0, .int .u64 0, .int .u64 0, .slice none 0 0, .int .i64 0, .int .i64 0, .int .i64 0, .int .i64 0, .int .i64 0] 45 (0, 0)) := m5; have t5 : Tch (fun k => k = w2.heap.size) w4 w4 := Tch.refl _ _; have E5 : ET w4 := E4.keep (t5.block 0 E4.lt (fun e => by
  have e : 0 = w2.heap.size := e; have h1 := HD.out.l5; have h2 := HE.out.lt; omega))
 have m5' : w4.heap[w1.heap.size]? = some (.cells rp0 45 (0, 0)) := (t5.block _ (aab m4) HD.out.ne).trans m4; have HNM := hE0 (ab1 E5 rk); have HT5 := hE0 t5; have HN5 := hE0 n5; have HM5 := hE0 m5'; have HM4 := hE0 m4; have HM45 := hE0 m5; have HT4 := hE0 T4; clear E4 E5 m4 m5 m5' n5 t5 T4; go_wp2_with fail
 refine HNM.out.mono ?_; rintro e w6 ⟨rfl, hb6⟩; have n6 := (hb6.block _ (aab HN5.out)).trans HN5.out; have m6 := (hb6.block _ (aab HM5.out)).trans HM5.out; obtain ⟨w7, hw7⟩ := nmE (w6.setCell ⟨w2.heap.size, 0, none⟩ (.int .i64 rk)); have n7 : w7.heap[w2.heap.size]? = some (.cells #[.int .i64 rk, .int .u64 0, .int .u64 0, .slice none 0 0, .int .i64 0, .int .i64 0, .int .i64 0, .int .i64 0, .int .i64 0] 45 (0, 0)) := by rw [<- hw7]; exact heap_setCell_same w6 w2.heap.size 0 _ _ _ n6
 have m7 : w7.heap[w1.heap.size]? = some (.cells rp0 45 (0, 0)) := by rw [<- hw7]; exact (Below.heap_setCell w6 ⟨w2.heap.size, 0, none⟩ _ w1.heap.size HD.out.ne).trans m6
 have t7 : Tch (fun k => k = w2.heap.size) w6 w7 := by rw [<- hw7]; exact Tch.set (S := fun k => k = w2.heap.size) w6 ⟨w2.heap.size, 0, none⟩ _ rfl
 have tf : Tch (fun k => k = w1.heap.size \/ k = w2.heap.size) w4 (ad1 w7 w1.heap.size (.int .i64 rk) (.int .u64 0) (.int .u64 0) (.slice none 0 0) (.int .i64 0) (.int .i64 0) (.int .i64 0) (.int .i64 0) (.int .i64 0)) :=
  (((((Tch.refl (fun k => k = w1.heap.size \/ k = w2.heap.size) w4).trans HT5.out (fun _ _ e => .inr e)).trans (Tch.of_below (S := fun _ => False) hb6) (fun _ _ h => h.elim)).trans t7 (fun _ _ e => .inr e)).trans (aaE w7 w1.heap.size (.int .i64 rk) (.int .u64 0) (.int .u64 0) (.slice none 0 0) (.int .i64 0) (.int .i64 0) (.int .i64 0) (.int .i64 0) (.int .i64 0)) (fun _ _ e => .inl e))
 have TF := hE0 tf; have MF := hE0 (aa7 m7 (.int .i64 rk) (.int .u64 0) (.int .u64 0) (.slice none 0 0) (.int .i64 0) (.int .i64 0) (.int .i64 0) (.int .i64 0) (.int .i64 0)); clear y0 y1 y2 y3 y4 y5 y6 y7 y8 f0 f1 f2 f3 f4 f5 f6 f7 f8 hy; obtain ⟨⟨y0, y1, y2, y3, y4, y5, y6, y7, y8⟩, f0, f1, f2, f3, f4, f5, f6, f7, f8⟩ := aah n6; have hy6 := aaa n6; have HW7 := hE0 hw7; obtain ⟨⟨u0, u1, u2, u3, u4, u5, u6, u7, u8⟩, _⟩ := aah n7; have hy7 := aaa n7; obtain ⟨⟨v0, v1, v2, v3, v4, v5, v6, v7, v8⟩, e0, e1, e2, e3, e4, e5, e6, e7, e8⟩ := aah m7; have hm7 := aaa m7; clear hb6 n6 m6 hw7 n7 m7 t7 tf HNM HT5 HN5 HM5; go_wp2_with (first | (rw [HW7.out]) | fail)
 (try simp only [Exit.inBlock, Exit.then])
 refine aaN (g := w1.heap.size) Tryz.results11 ?_ ?_ MF.out ?_
 · rfl
 · rfl
 · exact ⟨⟨none, 0, rfl, World.ownsRow_nil _ _ _ _⟩, HT4.out.ends HM4.out HM45.out HD.out.l4 HD.out.l5 TF.out⟩
theorem aqA {w : World} {q g base cap c : Nat} {A : Option Addr} {bs : List UInt8} {H : Hp} (h : PH w q g base cap A c bs H) (hE : ET w) (h0 : ¬ abg g A 0) (p n m a bl k : Nat) (B : Option Addr) (b : List UInt8) (hp : p < 18446744073709551616) (hn : n < 18446744073709551616) :
 Calls Tryz.prog 11 #[.pointer (some ⟨q, 0, none⟩), aa6 4 p n m a B bl k] w fun e w' => adx (H.doC 4 p n m a b).1 w e w' /\ PTurn g base cap A (H.doC 4 p n m a b).2 w w' := by
 rw [anG]; unfold aa6; have hd := Do3.made w #[.int .i64 4, .int .u64 (p : Int), .int .u64 (n : Int), .int .u64 (m : Int), .int .u64 (a : Int), .slice B bl k]; obtain ⟨w1, hw1⟩ := nmE (w.alloc (.cells #[.int .i64 4, .int .u64 (p : Int), .int .u64 (n : Int), .int .u64 (m : Int), .int .u64 (a : Int), .slice B bl k] 38)); rw [hw1] at hd; obtain ⟨w2, hw2⟩ := nmE (w1.alloc (.cells rp0 45)); rw [hw2] at hd; obtain ⟨w3, hw3⟩ := nmE (w2.alloc (.cells rp0 45)); rw [hw3] at hd; unfold rp0 at hw2 hw3; obtain ⟨z0, z1, z2, z3, z4, z5⟩ := aaB hd.n3; have hz := aaa hd.n3; have h3 := h.below hd.bel; have hk : ∀ k, w.heap.size <= k -> ¬ abg g A k := fun k hk hf => by have := h.ar.foot_lt hf; omega
 have hO := agY h3 p n hp hn; obtain ⟨r, hr⟩ := nmE (H.realloc p n); rw [hr] at hO ⊢; obtain ⟨⟨rh, rk⟩, H'⟩ := r; dsimp only [agX] at hO; dsimp only [akq]; have HO := hE0 hO; have HD := hE0 hd; have HH := hE0 h; have HK := hE0 hk; have HW1 := hE0 hw1; have HW2 := hE0 hw2; have HW3 := hE0 hw3; have HE := hE0 hE; have H00 := hE0 h0; clear h hd h3 hE hk hw1 hw2 hw3 h0 hO hr; go_enter Tryz.func11, Tryz.ntmps11
 go_wp2_with (first | (rw [HW1.out]) | (rw [HW2.out]) | (rw [HW3.out]) | fail)
 refine HO.out.mono ?_; rintro e w4 ⟨rfl, ht⟩; have T4 : PTurn g base cap A H' w w4 := ht.after HD.out.bel; have E4 : ET w4 := HE.out.keep (T4.tch.block 0 HE.out.lt H00.out); have t34 : Tch (abg g A) w3 w4 := ht.tch; have m4 := (t34.block _ (aab HD.out.n4) (HK.out _ HD.out.l4)).trans HD.out.n4; have m5 := (t34.block _ (aab HD.out.n5) (HK.out _ HD.out.l5)).trans HD.out.n5; obtain ⟨⟨y0, y1, y2, y3, y4, y5, y6, y7, y8⟩, f0, f1, f2, f3, f4, f5, f6, f7, f8⟩ := aah m5; have hy := aaa m5; clear z0 z1 z2 z3 z4 z5 hz HO t34; obtain ⟨w5, hw5⟩ := nmE (w4.setCell ⟨w2.heap.size, 1, none⟩ (.int .u64 (rh : Int))); have n5 : w5.heap[w2.heap.size]? = some (.cells #[.int .i64 0, .int .u64 (rh : Int), .int .u64 0, .slice none 0 0, .int .i64 0, .int .i64 0, .int .i64 0, .int .i64 0, .int .i64 0] 45 (0, 0)) := by rw [<- hw5]; exact heap_setCell_same w4 w2.heap.size 1 _ _ _ m5
 have t5 : Tch (fun k => k = w2.heap.size) w4 w5 := by rw [<- hw5]; exact Tch.set (S := fun k => k = w2.heap.size) w4 ⟨w2.heap.size, 1, none⟩ _ rfl
 have HW5 := hE0 hw5; clear hw5; have E5 : ET w5 := E4.keep (t5.block 0 E4.lt (fun e => by
  have e : 0 = w2.heap.size := e; have h1 := HD.out.l5; have h2 := HE.out.lt; omega))
 have m5' : w5.heap[w1.heap.size]? = some (.cells rp0 45 (0, 0)) := (t5.block _ (aab m4) HD.out.ne).trans m4; have HNM := hE0 (ab1 E5 rk); have HT5 := hE0 t5; have HN5 := hE0 n5; have HM5 := hE0 m5'; have HM4 := hE0 m4; have HM45 := hE0 m5; have HT4 := hE0 T4; clear E4 E5 m4 m5 m5' n5 t5 T4; go_wp2_with (first | (rw [HW5.out]) | fail)
 refine HNM.out.mono ?_; rintro e w6 ⟨rfl, hb6⟩; have n6 := (hb6.block _ (aab HN5.out)).trans HN5.out; have m6 := (hb6.block _ (aab HM5.out)).trans HM5.out; obtain ⟨w7, hw7⟩ := nmE (w6.setCell ⟨w2.heap.size, 0, none⟩ (.int .i64 rk)); have n7 : w7.heap[w2.heap.size]? = some (.cells #[.int .i64 rk, .int .u64 (rh : Int), .int .u64 0, .slice none 0 0, .int .i64 0, .int .i64 0, .int .i64 0, .int .i64 0, .int .i64 0] 45 (0, 0)) := by rw [<- hw7]; exact heap_setCell_same w6 w2.heap.size 0 _ _ _ n6
 have m7 : w7.heap[w1.heap.size]? = some (.cells rp0 45 (0, 0)) := by rw [<- hw7]; exact (Below.heap_setCell w6 ⟨w2.heap.size, 0, none⟩ _ w1.heap.size HD.out.ne).trans m6
 have t7 : Tch (fun k => k = w2.heap.size) w6 w7 := by rw [<- hw7]; exact Tch.set (S := fun k => k = w2.heap.size) w6 ⟨w2.heap.size, 0, none⟩ _ rfl
 have tf : Tch (fun k => k = w1.heap.size \/ k = w2.heap.size) w4 (ad1 w7 w1.heap.size (.int .i64 rk) (.int .u64 (rh : Int)) (.int .u64 0) (.slice none 0 0) (.int .i64 0) (.int .i64 0) (.int .i64 0) (.int .i64 0) (.int .i64 0)) :=
  (((((Tch.refl (fun k => k = w1.heap.size \/ k = w2.heap.size) w4).trans HT5.out (fun _ _ e => .inr e)).trans (Tch.of_below (S := fun _ => False) hb6) (fun _ _ h => h.elim)).trans t7 (fun _ _ e => .inr e)).trans (aaE w7 w1.heap.size (.int .i64 rk) (.int .u64 (rh : Int)) (.int .u64 0) (.slice none 0 0) (.int .i64 0) (.int .i64 0) (.int .i64 0) (.int .i64 0) (.int .i64 0)) (fun _ _ e => .inl e))
 have TF := hE0 tf; have MF := hE0 (aa7 m7 (.int .i64 rk) (.int .u64 (rh : Int)) (.int .u64 0) (.slice none 0 0) (.int .i64 0) (.int .i64 0) (.int .i64 0) (.int .i64 0) (.int .i64 0)); clear y0 y1 y2 y3 y4 y5 y6 y7 y8 f0 f1 f2 f3 f4 f5 f6 f7 f8 hy; obtain ⟨⟨y0, y1, y2, y3, y4, y5, y6, y7, y8⟩, f0, f1, f2, f3, f4, f5, f6, f7, f8⟩ := aah n6; have hy6 := aaa n6; have HW7 := hE0 hw7; obtain ⟨⟨u0, u1, u2, u3, u4, u5, u6, u7, u8⟩, _⟩ := aah n7; have hy7 := aaa n7; obtain ⟨⟨v0, v1, v2, v3, v4, v5, v6, v7, v8⟩, e0, e1, e2, e3, e4, e5, e6, e7, e8⟩ := aah m7; have hm7 := aaa m7; clear hb6 n6 m6 hw7 n7 m7 t7 tf HNM HT5 HN5 HM5; go_wp2_with (first | (rw [HW7.out]) | fail)
 (try simp only [Exit.inBlock, Exit.then])
 refine aaN (g := w1.heap.size) Tryz.results11 ?_ ?_ MF.out ?_
 · rfl
 · rfl
 · exact ⟨⟨none, 0, rfl, World.ownsRow_nil _ _ _ _⟩, HT4.out.ends HM4.out HM45.out HD.out.l4 HD.out.l5 TF.out⟩
theorem aqB {w : World} {q g base cap c : Nat} {A : Option Addr} {bs : List UInt8} {H : Hp} (h : PH w q g base cap A c bs H) (hE : ET w) (h0 : ¬ abg g A 0) (p n m a bl k : Nat) (B : Option Addr) (b : List UInt8) (hp : p < 18446744073709551616) :
 Calls Tryz.prog 11 #[.pointer (some ⟨q, 0, none⟩), aa6 5 p n m a B bl k] w fun e w' => adx (H.doC 5 p n m a b).1 w e w' /\ PTurn g base cap A (H.doC 5 p n m a b).2 w w' := by
 rw [apc]; unfold aa6; have hd := Do3.made w #[.int .i64 5, .int .u64 (p : Int), .int .u64 (n : Int), .int .u64 (m : Int), .int .u64 (a : Int), .slice B bl k]; obtain ⟨w1, hw1⟩ := nmE (w.alloc (.cells #[.int .i64 5, .int .u64 (p : Int), .int .u64 (n : Int), .int .u64 (m : Int), .int .u64 (a : Int), .slice B bl k] 38)); rw [hw1] at hd; obtain ⟨w2, hw2⟩ := nmE (w1.alloc (.cells rp0 45)); rw [hw2] at hd; obtain ⟨w3, hw3⟩ := nmE (w2.alloc (.cells rp0 45)); rw [hw3] at hd; unfold rp0 at hw2 hw3; obtain ⟨z0, z1, z2, z3, z4, z5⟩ := aaB hd.n3; have hz := aaa hd.n3; have h3 := h.below hd.bel; have hk : ∀ k, w.heap.size <= k -> ¬ abg g A k := fun k hk hf => by have := h.ar.foot_lt hf; omega
 have hO := aeI h3 p hp; obtain ⟨r, hr⟩ := nmE (H.usableP p); rw [hr] at hO ⊢; obtain ⟨rh, rk⟩ := r; dsimp only at hO; dsimp only; have HO := hE0 hO; have HD := hE0 hd; have HH := hE0 h; have HK := hE0 hk; have HW1 := hE0 hw1; have HW2 := hE0 hw2; have HW3 := hE0 hw3; have HE := hE0 hE; have H00 := hE0 h0; clear h hd h3 hE hk hw1 hw2 hw3 h0 hO hr; go_enter Tryz.func11, Tryz.ntmps11
 go_wp2_with (first | (rw [HW1.out]) | (rw [HW2.out]) | (rw [HW3.out]) | fail)
 refine HO.out.mono ?_; rintro e w4 ⟨rfl, hb4⟩; have T4 : PTurn g base cap A H w w4 := HH.out.stay (HD.out.bel.trans (hb4.mono HD.out.bel.size)); have E4 : ET w4 := HE.out.keep (T4.tch.block 0 HE.out.lt H00.out); have t34 : Tch (abg g A) w3 w4 := Tch.of_below hb4; have m4 := (t34.block _ (aab HD.out.n4) (HK.out _ HD.out.l4)).trans HD.out.n4; have m5 := (t34.block _ (aab HD.out.n5) (HK.out _ HD.out.l5)).trans HD.out.n5; obtain ⟨⟨y0, y1, y2, y3, y4, y5, y6, y7, y8⟩, f0, f1, f2, f3, f4, f5, f6, f7, f8⟩ := aah m5; have hy := aaa m5; clear z0 z1 z2 z3 z4 z5 hz HO t34; obtain ⟨w5, hw5⟩ := nmE (w4.setCell ⟨w2.heap.size, 2, none⟩ (.int .u64 (rh : Int))); have n5 : w5.heap[w2.heap.size]? = some (.cells #[.int .i64 0, .int .u64 0, .int .u64 (rh : Int), .slice none 0 0, .int .i64 0, .int .i64 0, .int .i64 0, .int .i64 0, .int .i64 0] 45 (0, 0)) := by rw [<- hw5]; exact heap_setCell_same w4 w2.heap.size 2 _ _ _ m5
 have t5 : Tch (fun k => k = w2.heap.size) w4 w5 := by rw [<- hw5]; exact Tch.set (S := fun k => k = w2.heap.size) w4 ⟨w2.heap.size, 2, none⟩ _ rfl
 have HW5 := hE0 hw5; clear hw5; have E5 : ET w5 := E4.keep (t5.block 0 E4.lt (fun e => by
  have e : 0 = w2.heap.size := e; have h1 := HD.out.l5; have h2 := HE.out.lt; omega))
 have m5' : w5.heap[w1.heap.size]? = some (.cells rp0 45 (0, 0)) := (t5.block _ (aab m4) HD.out.ne).trans m4; have HNM := hE0 (ab1 E5 rk); have HT5 := hE0 t5; have HN5 := hE0 n5; have HM5 := hE0 m5'; have HM4 := hE0 m4; have HM45 := hE0 m5; have HT4 := hE0 T4; clear E4 E5 m4 m5 m5' n5 t5 T4; go_wp2_with (first | (rw [HW5.out]) | fail)
 refine HNM.out.mono ?_; rintro e w6 ⟨rfl, hb6⟩; have n6 := (hb6.block _ (aab HN5.out)).trans HN5.out; have m6 := (hb6.block _ (aab HM5.out)).trans HM5.out; obtain ⟨w7, hw7⟩ := nmE (w6.setCell ⟨w2.heap.size, 0, none⟩ (.int .i64 rk)); have n7 : w7.heap[w2.heap.size]? = some (.cells #[.int .i64 rk, .int .u64 0, .int .u64 (rh : Int), .slice none 0 0, .int .i64 0, .int .i64 0, .int .i64 0, .int .i64 0, .int .i64 0] 45 (0, 0)) := by rw [<- hw7]; exact heap_setCell_same w6 w2.heap.size 0 _ _ _ n6
 have m7 : w7.heap[w1.heap.size]? = some (.cells rp0 45 (0, 0)) := by rw [<- hw7]; exact (Below.heap_setCell w6 ⟨w2.heap.size, 0, none⟩ _ w1.heap.size HD.out.ne).trans m6
 have t7 : Tch (fun k => k = w2.heap.size) w6 w7 := by rw [<- hw7]; exact Tch.set (S := fun k => k = w2.heap.size) w6 ⟨w2.heap.size, 0, none⟩ _ rfl
 have tf : Tch (fun k => k = w1.heap.size \/ k = w2.heap.size) w4 (ad1 w7 w1.heap.size (.int .i64 rk) (.int .u64 0) (.int .u64 (rh : Int)) (.slice none 0 0) (.int .i64 0) (.int .i64 0) (.int .i64 0) (.int .i64 0) (.int .i64 0)) :=
  (((((Tch.refl (fun k => k = w1.heap.size \/ k = w2.heap.size) w4).trans HT5.out (fun _ _ e => .inr e)).trans (Tch.of_below (S := fun _ => False) hb6) (fun _ _ h => h.elim)).trans t7 (fun _ _ e => .inr e)).trans (aaE w7 w1.heap.size (.int .i64 rk) (.int .u64 0) (.int .u64 (rh : Int)) (.slice none 0 0) (.int .i64 0) (.int .i64 0) (.int .i64 0) (.int .i64 0) (.int .i64 0)) (fun _ _ e => .inl e))
 have TF := hE0 tf; have MF := hE0 (aa7 m7 (.int .i64 rk) (.int .u64 0) (.int .u64 (rh : Int)) (.slice none 0 0) (.int .i64 0) (.int .i64 0) (.int .i64 0) (.int .i64 0) (.int .i64 0)); clear y0 y1 y2 y3 y4 y5 y6 y7 y8 f0 f1 f2 f3 f4 f5 f6 f7 f8 hy; obtain ⟨⟨y0, y1, y2, y3, y4, y5, y6, y7, y8⟩, f0, f1, f2, f3, f4, f5, f6, f7, f8⟩ := aah n6; have hy6 := aaa n6; have HW7 := hE0 hw7; obtain ⟨⟨u0, u1, u2, u3, u4, u5, u6, u7, u8⟩, _⟩ := aah n7; have hy7 := aaa n7; obtain ⟨⟨v0, v1, v2, v3, v4, v5, v6, v7, v8⟩, e0, e1, e2, e3, e4, e5, e6, e7, e8⟩ := aah m7; have hm7 := aaa m7; clear hb6 n6 m6 hw7 n7 m7 t7 tf HNM HT5 HN5 HM5; go_wp2_with (first | (rw [HW7.out]) | fail)
 (try simp only [Exit.inBlock, Exit.then])
 refine aaN (g := w1.heap.size) Tryz.results11 ?_ ?_ MF.out ?_
 · rfl
 · rfl
 · exact ⟨⟨none, 0, rfl, World.ownsRow_nil _ _ _ _⟩, HT4.out.ends HM4.out HM45.out HD.out.l4 HD.out.l5 TF.out⟩
theorem aqC {w : World} {q g base cap c : Nat} {A : Option Addr} {bs : List UInt8} {H : Hp} (h : PH w q g base cap A c bs H) (hE : ET w) (h0 : ¬ abg g A 0) (p n m a bl k : Nat) (B : Option Addr) (b : List UInt8) (hp : p < 18446744073709551616) (ha : a < 18446744073709551616) (hn : n < 18446744073709551616) :
 Calls Tryz.prog 11 #[.pointer (some ⟨q, 0, none⟩), aa6 6 p n m a B bl k] w fun e w' => adx (H.doC 6 p n m a b).1 w e w' /\ PTurn g base cap A (H.doC 6 p n m a b).2 w w' := by
 rw [apd]; unfold aa6; have hd := Do3.made w #[.int .i64 6, .int .u64 (p : Int), .int .u64 (n : Int), .int .u64 (m : Int), .int .u64 (a : Int), .slice B bl k]; obtain ⟨w1, hw1⟩ := nmE (w.alloc (.cells #[.int .i64 6, .int .u64 (p : Int), .int .u64 (n : Int), .int .u64 (m : Int), .int .u64 (a : Int), .slice B bl k] 38)); rw [hw1] at hd; obtain ⟨w2, hw2⟩ := nmE (w1.alloc (.cells rp0 45)); rw [hw2] at hd; obtain ⟨w3, hw3⟩ := nmE (w2.alloc (.cells rp0 45)); rw [hw3] at hd; unfold rp0 at hw2 hw3; obtain ⟨z0, z1, z2, z3, z4, z5⟩ := aaB hd.n3; have hz := aaa hd.n3; have h3 := h.below hd.bel; have hk : ∀ k, w.heap.size <= k -> ¬ abg g A k := fun k hk hf => by have := h.ar.foot_lt hf; omega
 have hO := afq h3 p a n hp ha hn; obtain ⟨r, hr⟩ := nmE (H.readP p a n); rw [hr] at hO ⊢; obtain ⟨rb, rk⟩ := r; unfold PBytes at hO; dsimp only at hO; dsimp only; have hbs := hd.bel.size; have HO := hE0 hO; have HD := hE0 hd; have HH := hE0 h; have HK := hE0 hk; have HW1 := hE0 hw1; have HW2 := hE0 hw2; have HW3 := hE0 hw3; have HE := hE0 hE; have H00 := hE0 h0; clear h hd h3 hE hk hw1 hw2 hw3 h0 hO hr; go_enter Tryz.func11, Tryz.ntmps11
 go_wp2_with (first | (rw [HW1.out]) | (rw [HW2.out]) | (rw [HW3.out]) | fail)
 refine HO.out.mono ?_; rintro e w4 ⟨A', c', rfl, ho, hb4⟩; have T4 : PTurn g base cap A H w w4 := HH.out.stay (HD.out.bel.trans (hb4.mono HD.out.bel.size)); have E4 : ET w4 := HE.out.keep (T4.tch.block 0 HE.out.lt H00.out); have t34 : Tch (abg g A) w3 w4 := Tch.of_below hb4; have m4 := (t34.block _ (aab HD.out.n4) (HK.out _ HD.out.l4)).trans HD.out.n4; have m5 := (t34.block _ (aab HD.out.n5) (HK.out _ HD.out.l5)).trans HD.out.n5; obtain ⟨⟨y0, y1, y2, y3, y4, y5, y6, y7, y8⟩, f0, f1, f2, f3, f4, f5, f6, f7, f8⟩ := aah m5; have hy := aaa m5; clear z0 z1 z2 z3 z4 z5 hz HO t34; obtain ⟨w5, hw5⟩ := nmE (w4.setCell ⟨w2.heap.size, 3, none⟩ (.slice A' rb.length c')); have n5 : w5.heap[w2.heap.size]? = some (.cells #[.int .i64 0, .int .u64 0, .int .u64 0, .slice A' rb.length c', .int .i64 0, .int .i64 0, .int .i64 0, .int .i64 0, .int .i64 0] 45 (0, 0)) := by rw [<- hw5]; exact heap_setCell_same w4 w2.heap.size 3 _ _ _ m5
 have t5 : Tch (fun k => k = w2.heap.size) w4 w5 := by rw [<- hw5]; exact Tch.set (S := fun k => k = w2.heap.size) w4 ⟨w2.heap.size, 3, none⟩ _ rfl
 have HW5 := hE0 hw5; clear hw5; have E5 : ET w5 := E4.keep (t5.block 0 E4.lt (fun e => by
  have e : 0 = w2.heap.size := e; have h1 := HD.out.l5; have h2 := HE.out.lt; omega))
 have m5' : w5.heap[w1.heap.size]? = some (.cells rp0 45 (0, 0)) := (t5.block _ (aab m4) HD.out.ne).trans m4; have HNM := hE0 (ab1 E5 rk); have HT5 := hE0 t5; have HN5 := hE0 n5; have HM5 := hE0 m5'; have HM4 := hE0 m4; have HM45 := hE0 m5; have HT4 := hE0 T4; clear E4 E5 m4 m5 m5' n5 t5 T4; go_wp2_with (first | (rw [HW5.out]) | fail)
 refine HNM.out.mono ?_; rintro e w6 ⟨rfl, hb6⟩; have n6 := (hb6.block _ (aab HN5.out)).trans HN5.out; have m6 := (hb6.block _ (aab HM5.out)).trans HM5.out; obtain ⟨w7, hw7⟩ := nmE (w6.setCell ⟨w2.heap.size, 0, none⟩ (.int .i64 rk)); have n7 : w7.heap[w2.heap.size]? = some (.cells #[.int .i64 rk, .int .u64 0, .int .u64 0, .slice A' rb.length c', .int .i64 0, .int .i64 0, .int .i64 0, .int .i64 0, .int .i64 0] 45 (0, 0)) := by rw [<- hw7]; exact heap_setCell_same w6 w2.heap.size 0 _ _ _ n6
 have m7 : w7.heap[w1.heap.size]? = some (.cells rp0 45 (0, 0)) := by rw [<- hw7]; exact (Below.heap_setCell w6 ⟨w2.heap.size, 0, none⟩ _ w1.heap.size HD.out.ne).trans m6
 have t7 : Tch (fun k => k = w2.heap.size) w6 w7 := by rw [<- hw7]; exact Tch.set (S := fun k => k = w2.heap.size) w6 ⟨w2.heap.size, 0, none⟩ _ rfl
 have tf : Tch (fun k => k = w1.heap.size \/ k = w2.heap.size) w4 (ad1 w7 w1.heap.size (.int .i64 rk) (.int .u64 0) (.int .u64 0) (.slice A' rb.length c') (.int .i64 0) (.int .i64 0) (.int .i64 0) (.int .i64 0) (.int .i64 0)) :=
  (((((Tch.refl (fun k => k = w1.heap.size \/ k = w2.heap.size) w4).trans HT5.out (fun _ _ e => .inr e)).trans (Tch.of_below (S := fun _ => False) hb6) (fun _ _ h => h.elim)).trans t7 (fun _ _ e => .inr e)).trans (aaE w7 w1.heap.size (.int .i64 rk) (.int .u64 0) (.int .u64 0) (.slice A' rb.length c') (.int .i64 0) (.int .i64 0) (.int .i64 0) (.int .i64 0) (.int .i64 0)) (fun _ _ e => .inl e))
 have TF := hE0 tf; have MF := hE0 (aa7 m7 (.int .i64 rk) (.int .u64 0) (.int .u64 0) (.slice A' rb.length c') (.int .i64 0) (.int .i64 0) (.int .i64 0) (.int .i64 0) (.int .i64 0)); clear y0 y1 y2 y3 y4 y5 y6 y7 y8 f0 f1 f2 f3 f4 f5 f6 f7 f8 hy; obtain ⟨⟨y0, y1, y2, y3, y4, y5, y6, y7, y8⟩, f0, f1, f2, f3, f4, f5, f6, f7, f8⟩ := aah n6; have hy6 := aaa n6; have HW7 := hE0 hw7; obtain ⟨⟨u0, u1, u2, u3, u4, u5, u6, u7, u8⟩, _⟩ := aah n7; have hy7 := aaa n7; obtain ⟨⟨v0, v1, v2, v3, v4, v5, v6, v7, v8⟩, e0, e1, e2, e3, e4, e5, e6, e7, e8⟩ := aah m7; have hm7 := aaa m7; clear hb6 n6 m6 hw7 n7 m7 t7 tf HNM HT5 HN5 HM5; go_wp2_with (first | (rw [HW7.out]) | fail)
 (try simp only [Exit.inBlock, Exit.then])
 refine aaN (g := w1.heap.size) Tryz.results11 ?_ ?_ MF.out ?_
 · rfl
 · rfl
 · exact ⟨⟨A', c', rfl, ahU (acb ho (fun j e => TF.out.block j (ho.lt j e).2 (by
    have h1 := (ho.lt j e).1; have h2 := aab HD.out.n4; have h3 := aab HD.out.n5; rintro (rfl | rfl) <;> omega))) hbs⟩, HT4.out.ends HM4.out HM45.out HD.out.l4 HD.out.l5 TF.out⟩
theorem aqD {w : World} {q g base cap c : Nat} {A : Option Addr} {bs : List UInt8} {H : Hp} (h : PH w q g base cap A c bs H) (hE : ET w) (h0 : ¬ abg g A 0) (p n m a bl k : Nat) (B : Option Addr) (b : List UInt8) (hp : p < 18446744073709551616) (ha : a < 18446744073709551616) (hbl : b.length = bl) (hr : Rd w w.heap.size B b.length b) (hb6 : bl <= 1000000) :
 Calls Tryz.prog 11 #[.pointer (some ⟨q, 0, none⟩), aa6 7 p n m a B bl k] w fun e w' => adx (H.doC 7 p n m a b).1 w e w' /\ PTurn g base cap A (H.doC 7 p n m a b).2 w w' := by
 rw [ape]; unfold aa6; have hd := Do3.made w #[.int .i64 7, .int .u64 (p : Int), .int .u64 (n : Int), .int .u64 (m : Int), .int .u64 (a : Int), .slice B bl k]; obtain ⟨w1, hw1⟩ := nmE (w.alloc (.cells #[.int .i64 7, .int .u64 (p : Int), .int .u64 (n : Int), .int .u64 (m : Int), .int .u64 (a : Int), .slice B bl k] 38)); rw [hw1] at hd; obtain ⟨w2, hw2⟩ := nmE (w1.alloc (.cells rp0 45)); rw [hw2] at hd; obtain ⟨w3, hw3⟩ := nmE (w2.alloc (.cells rp0 45)); rw [hw3] at hd; unfold rp0 at hw2 hw3; obtain ⟨z0, z1, z2, z3, z4, z5⟩ := aaB hd.n3; have hz := aaa hd.n3; have h3 := h.below hd.bel; have hk : ∀ k, w.heap.size <= k -> ¬ abg g A k := fun k hk hf => by have := h.ar.foot_lt hf; omega
 have hO := ake h3 p a b B k ((hr.below hd.bel).more hd.bel.size) hp ha (by omega); rw [hbl] at hO; obtain ⟨r, hr2⟩ := nmE (H.writeP p a b); rw [hr2] at hO ⊢; obtain ⟨rk, H'⟩ := r; dsimp only at hO; dsimp only [Rp.err]; have HO := hE0 hO; have HD := hE0 hd; have HH := hE0 h; have HK := hE0 hk; have HW1 := hE0 hw1; have HW2 := hE0 hw2; have HW3 := hE0 hw3; have HE := hE0 hE; have H00 := hE0 h0; clear h hd h3 hE hk hw1 hw2 hw3 h0 hO hr hr2 hbl; go_enter Tryz.func11, Tryz.ntmps11
 go_wp2_with (first | (rw [HW1.out]) | (rw [HW2.out]) | (rw [HW3.out]) | fail)
 refine HO.out.mono ?_; rintro e w4 ⟨rfl, ht⟩; have T4 : PTurn g base cap A H' w w4 := ht.after HD.out.bel; have E4 : ET w4 := HE.out.keep (T4.tch.block 0 HE.out.lt H00.out); have t34 : Tch (abg g A) w3 w4 := ht.tch; have m4 := (t34.block _ (aab HD.out.n4) (HK.out _ HD.out.l4)).trans HD.out.n4; have m5 := (t34.block _ (aab HD.out.n5) (HK.out _ HD.out.l5)).trans HD.out.n5; obtain ⟨⟨y0, y1, y2, y3, y4, y5, y6, y7, y8⟩, f0, f1, f2, f3, f4, f5, f6, f7, f8⟩ := aah m5; have hy := aaa m5; clear z0 z1 z2 z3 z4 z5 hz HO t34; have n5 : w4.heap[w2.heap.size]? = some (.cells #[.int .i64 0, .int .u64 0, .int .u64 0, .slice none 0 0, .int .i64 0, .int .i64 0, .int .i64 0, .int .i64 0, .int .i64 0] 45 (0, 0)) := m5; have t5 : Tch (fun k => k = w2.heap.size) w4 w4 := Tch.refl _ _; have E5 : ET w4 := E4.keep (t5.block 0 E4.lt (fun e => by
  have e : 0 = w2.heap.size := e; have h1 := HD.out.l5; have h2 := HE.out.lt; omega))
 have m5' : w4.heap[w1.heap.size]? = some (.cells rp0 45 (0, 0)) := (t5.block _ (aab m4) HD.out.ne).trans m4; have HNM := hE0 (ab1 E5 rk); have HT5 := hE0 t5; have HN5 := hE0 n5; have HM5 := hE0 m5'; have HM4 := hE0 m4; have HM45 := hE0 m5; have HT4 := hE0 T4; clear E4 E5 m4 m5 m5' n5 t5 T4; go_wp2_with fail
 refine HNM.out.mono ?_; rintro e w6 ⟨rfl, hb6⟩; have n6 := (hb6.block _ (aab HN5.out)).trans HN5.out; have m6 := (hb6.block _ (aab HM5.out)).trans HM5.out; obtain ⟨w7, hw7⟩ := nmE (w6.setCell ⟨w2.heap.size, 0, none⟩ (.int .i64 rk)); have n7 : w7.heap[w2.heap.size]? = some (.cells #[.int .i64 rk, .int .u64 0, .int .u64 0, .slice none 0 0, .int .i64 0, .int .i64 0, .int .i64 0, .int .i64 0, .int .i64 0] 45 (0, 0)) := by rw [<- hw7]; exact heap_setCell_same w6 w2.heap.size 0 _ _ _ n6
 have m7 : w7.heap[w1.heap.size]? = some (.cells rp0 45 (0, 0)) := by rw [<- hw7]; exact (Below.heap_setCell w6 ⟨w2.heap.size, 0, none⟩ _ w1.heap.size HD.out.ne).trans m6
 have t7 : Tch (fun k => k = w2.heap.size) w6 w7 := by rw [<- hw7]; exact Tch.set (S := fun k => k = w2.heap.size) w6 ⟨w2.heap.size, 0, none⟩ _ rfl
 have tf : Tch (fun k => k = w1.heap.size \/ k = w2.heap.size) w4 (ad1 w7 w1.heap.size (.int .i64 rk) (.int .u64 0) (.int .u64 0) (.slice none 0 0) (.int .i64 0) (.int .i64 0) (.int .i64 0) (.int .i64 0) (.int .i64 0)) :=
  (((((Tch.refl (fun k => k = w1.heap.size \/ k = w2.heap.size) w4).trans HT5.out (fun _ _ e => .inr e)).trans (Tch.of_below (S := fun _ => False) hb6) (fun _ _ h => h.elim)).trans t7 (fun _ _ e => .inr e)).trans (aaE w7 w1.heap.size (.int .i64 rk) (.int .u64 0) (.int .u64 0) (.slice none 0 0) (.int .i64 0) (.int .i64 0) (.int .i64 0) (.int .i64 0) (.int .i64 0)) (fun _ _ e => .inl e))
 have TF := hE0 tf; have MF := hE0 (aa7 m7 (.int .i64 rk) (.int .u64 0) (.int .u64 0) (.slice none 0 0) (.int .i64 0) (.int .i64 0) (.int .i64 0) (.int .i64 0) (.int .i64 0)); clear y0 y1 y2 y3 y4 y5 y6 y7 y8 f0 f1 f2 f3 f4 f5 f6 f7 f8 hy; obtain ⟨⟨y0, y1, y2, y3, y4, y5, y6, y7, y8⟩, f0, f1, f2, f3, f4, f5, f6, f7, f8⟩ := aah n6; have hy6 := aaa n6; have HW7 := hE0 hw7; obtain ⟨⟨u0, u1, u2, u3, u4, u5, u6, u7, u8⟩, _⟩ := aah n7; have hy7 := aaa n7; obtain ⟨⟨v0, v1, v2, v3, v4, v5, v6, v7, v8⟩, e0, e1, e2, e3, e4, e5, e6, e7, e8⟩ := aah m7; have hm7 := aaa m7; clear hb6 n6 m6 hw7 n7 m7 t7 tf HNM HT5 HN5 HM5; go_wp2_with (first | (rw [HW7.out]) | fail)
 (try simp only [Exit.inBlock, Exit.then])
 refine aaN (g := w1.heap.size) Tryz.results11 ?_ ?_ MF.out ?_
 · rfl
 · rfl
 · exact ⟨⟨none, 0, rfl, World.ownsRow_nil _ _ _ _⟩, HT4.out.ends HM4.out HM45.out HD.out.l4 HD.out.l5 TF.out⟩
theorem aqE {w : World} {q g base cap c : Nat} {A : Option Addr} {bs : List UInt8} {H : Hp} (h : PH w q g base cap A c bs H) (hE : ET w) (h0 : ¬ abg g A 0) (p n m a bl k : Nat) (B : Option Addr) (b : List UInt8) :
 Calls Tryz.prog 11 #[.pointer (some ⟨q, 0, none⟩), aa6 8 p n m a B bl k] w fun e w' => adx (H.doC 8 p n m a b).1 w e w' /\ PTurn g base cap A (H.doC 8 p n m a b).2 w w' := by
 rw [anH]; unfold aa6; have hd := Do3.made w #[.int .i64 8, .int .u64 (p : Int), .int .u64 (n : Int), .int .u64 (m : Int), .int .u64 (a : Int), .slice B bl k]; obtain ⟨w1, hw1⟩ := nmE (w.alloc (.cells #[.int .i64 8, .int .u64 (p : Int), .int .u64 (n : Int), .int .u64 (m : Int), .int .u64 (a : Int), .slice B bl k] 38)); rw [hw1] at hd; obtain ⟨w2, hw2⟩ := nmE (w1.alloc (.cells rp0 45)); rw [hw2] at hd; obtain ⟨w3, hw3⟩ := nmE (w2.alloc (.cells rp0 45)); rw [hw3] at hd; unfold rp0 at hw2 hw3; obtain ⟨z0, z1, z2, z3, z4, z5⟩ := aaB hd.n3; have hz := aaa hd.n3; have h3 := h.below hd.bel; have hk : ∀ k, w.heap.size <= k -> ¬ abg g A k := fun k hk hf => by have := h.ar.foot_lt hf; omega
 have hO := aiW h3; obtain ⟨r, hr⟩ := nmE H.stats; rw [hr] at hO ⊢; obtain ⟨s0, s1, s2, s3, s4⟩ := r; dsimp only [stV] at hO; dsimp only; have HO := hE0 hO; have HD := hE0 hd; have HH := hE0 h; have HK := hE0 hk; have HW1 := hE0 hw1; have HW2 := hE0 hw2; have HW3 := hE0 hw3; have HE := hE0 hE; have H00 := hE0 h0; clear h hd h3 hE hk hw1 hw2 hw3 h0 hO hr; go_enter Tryz.func11, Tryz.ntmps11
 go_wp2_with (first | (rw [HW1.out]) | (rw [HW2.out]) | (rw [HW3.out]) | fail)
 refine HO.out.mono ?_; rintro e w4 ⟨rfl, hb4⟩; have T4 : PTurn g base cap A H w w4 := HH.out.stay (HD.out.bel.trans (hb4.mono HD.out.bel.size)); have E4 : ET w4 := HE.out.keep (T4.tch.block 0 HE.out.lt H00.out); have t34 : Tch (abg g A) w3 w4 := Tch.of_below hb4; have m4 := (t34.block _ (aab HD.out.n4) (HK.out _ HD.out.l4)).trans HD.out.n4; have m5 := (t34.block _ (aab HD.out.n5) (HK.out _ HD.out.l5)).trans HD.out.n5; obtain ⟨⟨y0, y1, y2, y3, y4, y5, y6, y7, y8⟩, f0, f1, f2, f3, f4, f5, f6, f7, f8⟩ := aah m5; have hy := aaa m5; clear z0 z1 z2 z3 z4 z5 hz HO t34; obtain ⟨w5, hw5⟩ := nmE (((((w4.setCell ⟨w2.heap.size, 4, none⟩ (.int .i64 (s0 : Int))).setCell ⟨w2.heap.size, 5, none⟩ (.int .i64 (s1 : Int))).setCell ⟨w2.heap.size, 6, none⟩ (.int .i64 (s2 : Int))).setCell ⟨w2.heap.size, 7, none⟩ (.int .i64 (s3 : Int))).setCell ⟨w2.heap.size, 8, none⟩ (.int .i64 (s4 : Int))); have n5 : w5.heap[w2.heap.size]? = some (.cells #[.int .i64 0, .int .u64 0, .int .u64 0, .slice none 0 0, .int .i64 (s0 : Int), .int .i64 (s1 : Int), .int .i64 (s2 : Int), .int .i64 (s3 : Int), .int .i64 (s4 : Int)] 45 (0, 0)) := by rw [<- hw5]; exact ap1 m5 _ _ _ _ _
 have t5 : Tch (fun k => k = w2.heap.size) w4 w5 := by rw [<- hw5]; exact an4 _ _ _ _ _ _ _
 have HW5 := hE0 hw5; clear hw5; have E5 : ET w5 := E4.keep (t5.block 0 E4.lt (fun e => by
  have e : 0 = w2.heap.size := e; have h1 := HD.out.l5; have h2 := HE.out.lt; omega))
 have m5' : w5.heap[w1.heap.size]? = some (.cells rp0 45 (0, 0)) := (t5.block _ (aab m4) HD.out.ne).trans m4; have HNM := hE0 (afo w5); have HT5 := hE0 t5; have HN5 := hE0 n5; have HM5 := hE0 m5'; have HM4 := hE0 m4; have HM45 := hE0 m5; have HT4 := hE0 T4; clear E4 E5 m4 m5 m5' n5 t5 T4; go_wp2_with (first | (rw [HW5.out]) | fail)
 refine HNM.out.mono ?_; rintro e w6 ⟨rfl, hb6⟩; have n6 := (hb6.block _ (aab HN5.out)).trans HN5.out; have m6 := (hb6.block _ (aab HM5.out)).trans HM5.out; obtain ⟨w7, hw7⟩ := nmE (w6.setCell ⟨w2.heap.size, 0, none⟩ (.int .i64 0)); have n7 : w7.heap[w2.heap.size]? = some (.cells #[.int .i64 0, .int .u64 0, .int .u64 0, .slice none 0 0, .int .i64 (s0 : Int), .int .i64 (s1 : Int), .int .i64 (s2 : Int), .int .i64 (s3 : Int), .int .i64 (s4 : Int)] 45 (0, 0)) := by rw [<- hw7]; exact heap_setCell_same w6 w2.heap.size 0 _ _ _ n6
 have m7 : w7.heap[w1.heap.size]? = some (.cells rp0 45 (0, 0)) := by rw [<- hw7]; exact (Below.heap_setCell w6 ⟨w2.heap.size, 0, none⟩ _ w1.heap.size HD.out.ne).trans m6
 have t7 : Tch (fun k => k = w2.heap.size) w6 w7 := by rw [<- hw7]; exact Tch.set (S := fun k => k = w2.heap.size) w6 ⟨w2.heap.size, 0, none⟩ _ rfl
 have tf : Tch (fun k => k = w1.heap.size \/ k = w2.heap.size) w4 (ad1 w7 w1.heap.size (.int .i64 0) (.int .u64 0) (.int .u64 0) (.slice none 0 0) (.int .i64 (s0 : Int)) (.int .i64 (s1 : Int)) (.int .i64 (s2 : Int)) (.int .i64 (s3 : Int)) (.int .i64 (s4 : Int))) :=
  (((((Tch.refl (fun k => k = w1.heap.size \/ k = w2.heap.size) w4).trans HT5.out (fun _ _ e => .inr e)).trans (Tch.of_below (S := fun _ => False) hb6) (fun _ _ h => h.elim)).trans t7 (fun _ _ e => .inr e)).trans (aaE w7 w1.heap.size (.int .i64 0) (.int .u64 0) (.int .u64 0) (.slice none 0 0) (.int .i64 (s0 : Int)) (.int .i64 (s1 : Int)) (.int .i64 (s2 : Int)) (.int .i64 (s3 : Int)) (.int .i64 (s4 : Int))) (fun _ _ e => .inl e))
 have TF := hE0 tf; have MF := hE0 (aa7 m7 (.int .i64 0) (.int .u64 0) (.int .u64 0) (.slice none 0 0) (.int .i64 (s0 : Int)) (.int .i64 (s1 : Int)) (.int .i64 (s2 : Int)) (.int .i64 (s3 : Int)) (.int .i64 (s4 : Int))); clear y0 y1 y2 y3 y4 y5 y6 y7 y8 f0 f1 f2 f3 f4 f5 f6 f7 f8 hy; obtain ⟨⟨y0, y1, y2, y3, y4, y5, y6, y7, y8⟩, f0, f1, f2, f3, f4, f5, f6, f7, f8⟩ := aah n6; have hy6 := aaa n6; have HW7 := hE0 hw7; obtain ⟨⟨u0, u1, u2, u3, u4, u5, u6, u7, u8⟩, _⟩ := aah n7; have hy7 := aaa n7; obtain ⟨⟨v0, v1, v2, v3, v4, v5, v6, v7, v8⟩, e0, e1, e2, e3, e4, e5, e6, e7, e8⟩ := aah m7; have hm7 := aaa m7; clear hb6 n6 m6 hw7 n7 m7 t7 tf HNM HT5 HN5 HM5; go_wp2_with (first | (rw [HW7.out]) | fail)
 (try simp only [Exit.inBlock, Exit.then])
 refine aaN (g := w1.heap.size) Tryz.results11 ?_ ?_ MF.out ?_
 · rfl
 · rfl
 · exact ⟨⟨none, 0, rfl, World.ownsRow_nil _ _ _ _⟩, HT4.out.ends HM4.out HM45.out HD.out.l4 HD.out.l5 TF.out⟩
end Go.Proofs.YtnicenfdlfffpaaGreatDoor
