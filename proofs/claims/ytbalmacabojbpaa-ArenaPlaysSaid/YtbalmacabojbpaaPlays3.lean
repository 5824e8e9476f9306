/- The walk of the law ArenaPlays: it returns true and writes nothing that was there. -/
import Derived.Test.YtbalmacabojbpaaPlays2
namespace Go.Proofs.Ytbalmacabojbpaa
open Go.RowKit

/-- A slice of deeds. -/
def Des (w : World) (B : Nat) (A : Option Addr) (ds : List De) : Prop := 0 < ds.length → ∃ b o, A = some ⟨b, o, none⟩ ∧ b < B ∧ ∀ j d, ds[j]? = some d →
  w.cell? ⟨b, o + j * 7, none⟩ = some (.int .i64 d.what) ∧ w.cell? ⟨b, o + j * 7 + 1, none⟩ = some (.int .u64 (d.addr : Int)) ∧ w.cell? ⟨b, o + j * 7 + 2, none⟩ = some (.int .u64 (d.from_ : Int)) ∧
  w.cell? ⟨b, o + j * 7 + 3, none⟩ = some (.int .u64 (d.n : Int)) ∧ w.cell? ⟨b, o + j * 7 + 4, none⟩ = some (.int .u64 (d.v : Int)) ∧ w.cell? ⟨b, o + j * 7 + 5, none⟩ = some (.int .u8 (d.x.toNat : Int)) ∧ w.cell? ⟨b, o + j * 7 + 6, none⟩ = some (.slice d.bA d.bn d.bc)
theorem Des.below {w w' : World} {B : Nat} {A : Option Addr} {ds : List De} (h : Des w B A ds) (hb : Below B w w') : Des w' B A ds := fun hn => by
  obtain ⟨b, o, e, hB, hc⟩ := h hn
  refine ⟨b, o, e, hB, fun j d hd => ?_⟩
  obtain ⟨h0, h1, h2, h3, h4, h5, h6⟩ := hc j d hd
  exact ⟨(hb.cell (p := ⟨b, _, none⟩) hB).trans h0, (hb.cell (p := ⟨b, _, none⟩) hB).trans h1, (hb.cell (p := ⟨b, _, none⟩) hB).trans h2, (hb.cell (p := ⟨b, _, none⟩) hB).trans h3, (hb.cell (p := ⟨b, _, none⟩) hB).trans h4, (hb.cell (p := ⟨b, _, none⟩) hB).trans h5, (hb.cell (p := ⟨b, _, none⟩) hB).trans h6⟩
/-- A deed's numbers fit; its bytes lie below B. -/
structure De.inn (d : De) (w : World) (B : Nat) : Prop where
  addr : d.addr < 18446744073709551616
  from_ : d.from_ < 18446744073709551616
  n : d.n < 18446744073709551616
  v : d.v < 18446744073709551616
  len : d.bn ≤ 9223372036854775807
  bytes : ∃ cs, Rd w B d.bA d.bn cs

set_option maxRecDepth 100000 in
set_option maxHeartbeats 2000000 in
theorem plays_no (w : World) (base : Nat) (cap : Int) (L : Option Addr) (n c : Nat) (hb : base < 18446744073709551616) (hc : -9223372036854775808 ≤ cap ∧ cap ≤ 9223372036854775807) (h : base % 16 ≠ 0 ∨ 4611686018427387904 < base ∨ cap < 1024 ∨ 16384 < cap) :
    Calls Try.prog 3 #[.int .u64 (base : Int), .int .i64 cap, .slice L n c] w fun e w' => e = .returned (.bool true) ∧ Below w.heap.size w w' := by
  have HN := Lib.hid (fun W => new_no W base cap hb hc h)
  have HM := Lib.hid (fun W => may_no W base cap h)
  clear h
  go_enter Try.func3, Try.ntmps3
  go_wp2_with fail
  refine (up3_any _).mono ?_
  rintro e w1 ⟨rfl, hb1⟩
  go_wp2_with fail
  with_reducible refine (HN.out w1).mono ?_
  rintro e w2 ⟨rfl, rfl⟩
  go_wp2_with fail
  with_reducible refine (HM.out w1).mono ?_
  rintro e w2 ⟨rfl, rfl⟩
  go_wp2
  go_ret
  exact ⟨rfl, hb1⟩

set_option maxRecDepth 100000 in
set_option maxHeartbeats 2000000 in
theorem plays_long (w : World) (base cap : Nat) (L : Option Addr) (n c : Nat) (h1 : base % 16 = 0) (h2 : base ≤ 4611686018427387904) (h3 : 1024 ≤ cap) (h4 : cap ≤ 16384) (hn : 60 < n) :
    Calls Try.prog 3 #[.int .u64 (base : Int), .int .i64 (cap : Int), .slice L n c] w fun e w' => e = .returned (.bool true) ∧ Below w.heap.size w w' := by
  have HN := Lib.hid (fun W => new_yes W base cap h1 h2 h3 h4)
  have HM := Lib.hid (fun W => may_yes W base cap h1 h2 h3 h4)
  clear h1
  go_enter Try.func3, Try.ntmps3
  go_wp2_with fail
  refine (up3_any _).mono ?_
  rintro e w1 ⟨rfl, hb1⟩
  go_wp2_with fail
  with_reducible refine (HN.out w1).mono ?_
  rintro e w2 ⟨rfl, _, hb2⟩
  go_wp2_with fail
  with_reducible refine (HM.out w2).mono ?_
  rintro e w3 ⟨rfl, rfl⟩
  go_wp2
  go_ret
  exact ⟨rfl, hb1.trans (hb2.mono hb1.size)⟩

set_option maxRecDepth 100000 in
set_option maxHeartbeats 4000000 in
theorem plays_main (w : World) (base cap : Nat) (L : Option Addr) (c : Nat) (ds : List De) (h1 : base % 16 = 0) (h2 : base ≤ 4611686018427387904) (h3 : 1024 ≤ cap) (h4 : cap ≤ 16384) (hn : ds.length ≤ 60) (hl : Des w w.heap.size L ds) (hi : ∀ d ∈ ds, d.inn w w.heap.size) :
    Calls Try.prog 3 #[.int .u64 (base : Int), .int .i64 (cap : Int), .slice L ds.length c] w fun e w' => e = .returned (.bool true) ∧ Below w.heap.size w w' := by
  have HN := Lib.hid (fun W => new_yes W base cap h1 h2 h3 h4)
  have HM := Lib.hid (fun W => may_yes W base cap h1 h2 h3 h4)
  clear h1
  obtain ⟨B, hB⟩ : ∃ B, w.heap.size = B := ⟨_, rfl⟩
  rw [hB] at hl hi ⊢
  have s1 : decide ((60 : Int) < (ds.length : Int)) = false := decide_eq_false (by omega)
  have HL := Lib.hid hl
  have HI := Lib.hid hi
  clear hl hi
  go_enter Try.func3, Try.ntmps3
  go_wp2_with fail
  refine (up3_any _).mono ?_
  rintro e w1 ⟨rfl, hb1⟩
  rw [hB] at hb1
  have hs1 := hb1.size
  rw [hB] at hs1
  go_wp2_with fail
  with_reducible refine (HN.out w1).mono ?_
  rintro e w2 ⟨rfl, a2, hb2⟩
  obtain ⟨ga, hga⟩ : ∃ ga, w1.heap.size = ga := ⟨_, rfl⟩
  rw [hga] at a2 ⊢
  obtain ⟨gm, hgm⟩ : ∃ gm, w2.heap.size = gm := ⟨_, rfl⟩
  obtain ⟨w3, hw3⟩ : ∃ w3, w2.alloc (.cells #[.int .u64 (base : Int), .int .i64 (cap : Int), .slice none 0 0] 31) = w3 := ⟨_, rfl⟩
  have b23 : Below w2.heap.size w2 w3 := by rw [← hw3]; exact (Below.refl _ _).alloc (Nat.le_refl _) _
  have m3 : Ar w3 31 w2.heap.size base cap none 0 [] := by rw [← hw3]; exact ⟨heap_alloc_new w2 _, World.ownsRow_nil _ _ _ _⟩
  have hs2 := hb2.size
  have p3 : PrE B w3 ga w2.heap.size base cap [] := ⟨none, 0, none, 0, a2.below b23, m3, (fun _ _ e => by cases e), by omega, by omega, (fun _ e => by cases e), (fun _ e => by cases e)⟩
  rw [hgm] at p3
  have P3 := Lib.hid p3
  have HB3 : Hid (Below B w w3) := hb1.trans ((hb2.trans (b23.mono hb2.size)).mono hs1)
  have HS3 : Hid (B ≤ w3.heap.size) := (show _ ≤ _ by have := b23.size; omega)
  have HW3 := Lib.hid hw3
  have HB := Lib.hid hB
  clear hw3 m3 b23 p3 a2 hb2 hb1 hs1 hs2 hga hB
  go_wp2_with fail
  with_reducible refine (HM.out w2).mono ?_
  rintro e w4 ⟨rfl, rfl⟩
  clear HN HM
  go_wp2
  rw [HW3.out]
  clear s1 HW3 hgm
  go_loopw [11] (fun i wr => ∃ j : Nat, j ≤ ds.length ∧ i = .int .i64 j ∧ (∃ cap' bs, PrE B wr ga gm base cap' bs ∧ bs.length ≤ cap' ∧ cap' ≤ 16384) ∧ Below B w wr ∧ B ≤ wr.heap.size) (fun i _ => ds.length - (intOf i).toNat)
  case atStart => exact ⟨0, Nat.zero_le _, rfl, ⟨cap, [], P3.out, by simp, h4⟩, HB3.out, HS3.out⟩
  case round =>
    obtain ⟨j, hj, rfl, ⟨cap', bs, ⟨A, ca, M, cm, pr⟩, hlc, hcap⟩, hb, hs⟩ := hrel
    by_cases hlt : j < ds.length
    · obtain ⟨d, hd⟩ : ∃ d, ds[j]? = some d := ⟨ds[j], List.getElem?_eq_getElem hlt⟩
      obtain ⟨b, o, rfl, hbB, hc⟩ := (HL.out.below hb) (by omega)
      obtain ⟨d0, d1, d2, d3, d4, d5, d6⟩ := hc j d hd
      obtain ⟨i1, i2, i3, i4, i5, cs, i6⟩ := HI.out d (List.mem_of_getElem? hd)
      clear hc hd
      by_cases hbig : 20000 < d.bn
      · clear pr i6
        go_wp2
        go_ret
        exact ⟨rfl, hb⟩
      · have HD := Lib.hid (do_any pr hs h2 hlc hcap d ⟨i1, i2, i3, i4, by omega, cs, i6.below hb⟩)
        have HBr := Lib.hid hb
        have HSr := Lib.hid hs
        clear pr hb hs i6
        go_wp2_with fail
        with_reducible refine HD.out.mono ?_
        rintro e w5 ⟨rfl, ⟨cap5, bs5, ⟨A5, ca5, M5, cm5, p5⟩, hl5, hc5⟩, b5⟩
        obtain ⟨w6, hw6⟩ : ∃ w6, w5.drew = w6 := ⟨_, rfl⟩
        have p6 : Pr B w6 ga gm base cap5 A5 ca5 M5 cm5 bs5 := by rw [← hw6]; exact p5.below (Below.refl _ _).drew
        have b6 : Below B w w6 := by rw [← hw6]; exact (HBr.out.trans b5).drew
        have s6 : B ≤ w6.heap.size := by rw [← hw6]; exact Nat.le_trans HSr.out b5.size
        have P6 := Lib.hid p6
        have HB6 := Lib.hid b6
        have HS6 := Lib.hid s6
        have HW6 := Lib.hid hw6
        have HBY := Lib.hid (bytes_any p6.a (by omega) h2)
        clear p5 p6 b6 s6 hw6 b5 HD HBr HSr d0 d1 d2 d3 d4 d5 d6
        go_wp2_with fail
        refine wp_region_tail w6.heap.size [([0, 2, 3, 4, 5, 6], 1), ([7, 8, 9, 11, 12, 13, 14], 10), ([15, 16, 17, 18, 20], 19), ([21, 22, 23, 24, 27, 28, 29, 30, 31], 25)] [26, 32, 33] [] (by kernel_rfl) (by kernel_rfl) (by kernel_rfl) (fun _ _ _ _ _ h => h) ?_
        rw [HW6.out]
        clear HW6
        have t1 : ∀ z : LaterB w6.heap.size w6, z.val.cell? ⟨gm, 1, none⟩ = some (.int .i64 (cap5 : Int)) := fun z => (z.ext.cell (p := ⟨gm, 1, none⟩) P6.out.m.lt).trans P6.out.m.c1
        have t2 : ∀ z : LaterB w6.heap.size w6, z.val.cell? ⟨gm, 2, none⟩ = some (.slice M5 bs5.length cm5) := fun z => (z.ext.cell (p := ⟨gm, 2, none⟩) P6.out.m.lt).trans P6.out.m.c2
        have tm := conv_B9 P6.out.m.reads
        refine tail_cons (l := ?seg1) ?hseg1 ?_
        case hseg1 => simp only [pick, List.getElem?_toArray, List.getElem?_cons_succ, List.getElem?_cons_zero]; rfl
        repeat (go_big_quiet_step (fail))
        refine wpQuiet_nil ?_
        refine tail_call (vs := #[.pointer (some ⟨ga, 0, none⟩)]) Try.call10 rfl rfl rfl (R := fun r w' => r = .int .i64 (bs5.length : Int) ∧ w' = w6) ((len_any P6.out.a).mono ?_) w6.heap.size (Nat.le_refl _) ?_
        · rintro e w' ⟨rfl, rfl⟩
          exact ⟨_, rfl, Below.refl _ _, rfl, rfl⟩
        rintro r w7 _ ⟨rfl, rfl⟩
        refine tail_cons (l := ?seg2) ?hseg2 ?_
        case hseg2 => simp only [pick, List.getElem?_toArray, List.getElem?_cons_succ, List.getElem?_cons_zero]; rfl
        simp only [Act.put, List.setIfInBounds_toArray, List.set_cons_zero, List.set_cons_succ]
        repeat (go_big_quiet_step (fail))
        refine wpQuiet_nil ?_
        refine tail_call (vs := #[.pointer (some ⟨ga, 0, none⟩)]) Try.call11 rfl rfl rfl (R := fun r w' => r = .int .i64 (cap5 : Int) ∧ w' = w7) ((cap_any P6.out.a).mono ?_) w7.heap.size (Nat.le_refl _) ?_
        · rintro e w' ⟨rfl, rfl⟩
          exact ⟨_, rfl, Below.refl _ _, rfl, rfl⟩
        rintro r w8 _ ⟨rfl, rfl⟩
        refine tail_cons (l := ?seg3) ?hseg3 ?_
        case hseg3 => simp only [pick, List.getElem?_toArray, List.getElem?_cons_succ, List.getElem?_cons_zero]; rfl
        simp only [Act.put, List.setIfInBounds_toArray, List.set_cons_zero, List.set_cons_succ]
        repeat (go_big_quiet_step (fail))
        refine wpQuiet_nil ?_
        refine tail_call (vs := #[.pointer (some ⟨ga, 0, none⟩)]) Try.call12 rfl rfl rfl (R := fun r w' => r = .int .u64 (base : Int) ∧ w' = w8) ((base_any P6.out.a).mono ?_) w8.heap.size (Nat.le_refl _) ?_
        · rintro e w' ⟨rfl, rfl⟩
          exact ⟨_, rfl, Below.refl _ _, rfl, rfl⟩
        rintro r w9 _ ⟨rfl, rfl⟩
        refine tail_cons (l := ?seg4) ?hseg4 ?_
        case hseg4 => simp only [pick, List.getElem?_toArray, List.getElem?_cons_succ, List.getElem?_cons_zero]; rfl
        simp only [Act.put, List.setIfInBounds_toArray, List.set_cons_zero, List.set_cons_succ]
        repeat (go_big_quiet_step (fail))
        refine wpQuiet_nil ?_
        clear t1 t2 tm
        refine tail_call2 (vs := #[.pointer (some ⟨ga, 0, none⟩)]) Try.call13 rfl rfl rfl (R := fun r w' => ∃ A c, r = .slice A bs5.length c ∧ Rd w' w'.heap.size A bs5.length bs5 ∧ Below w9.heap.size w9 w') (HBY.out.mono ?_) ?_
        · rintro e w' ⟨A', c', rfl, ho, hb⟩
          exact ⟨_, rfl, hb, A', c', rfl, Rd.own ho, hb⟩
        rintro r w10 _ ⟨A10, c10, rfl, r10, b10⟩
        refine ⟨w10.heap.size, b10.size, ?_⟩
        have ta := conv_B9 r10
        refine tail_last (l := ?la5) (t := []) ?hla5 ?htl5 ?_
        case hla5 => simp only [pick, List.getElem?_toArray, List.getElem?_cons_succ, List.getElem?_cons_zero]; rfl
        case htl5 => rfl
        simp only [Act.put, List.setIfInBounds_toArray, List.set_cons_zero, List.set_cons_succ]
        repeat (go_big_quiet_step (fail))
        refine wpQuiet_nil ?_
        have HE : Hid (PrE B w10 ga gm base cap5 bs5) := ⟨A5, ca5, M5, cm5, P6.out.below b10⟩
        have HB10 := Lib.hid (HB6.out.trans (b10.mono HS6.out))
        have HS10 : Hid (B ≤ w10.heap.size) := Nat.le_trans HS6.out b10.size
        clear ta r10 b10 P6 HB6 HBY
        go_wp2
        go_roundw
        case rel => exact ⟨j + 1, by omega, by go_num, ⟨cap5, bs5, HE.out, hl5, hc5⟩, HB10.out, HS10.out⟩
        case measure => simp [intOf]; omega
    · go_wp2
      go_ret
      exact ⟨rfl, hb⟩
end Go.Proofs.Ytbalmacabojbpaa
