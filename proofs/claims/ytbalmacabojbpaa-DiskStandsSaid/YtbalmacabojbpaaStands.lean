/- The walk of the law DiskStands: it returns true and writes nothing that was there. -/
import Derived.Test.YtbalmacabojbpaaUp4
import Derived.Test.YtbalmacabojbpaaStand
namespace Go.Proofs.Ytbalmacabojbpaa
open Go.RowKit

theorem sector_full (x : UInt8) (w : World) :
    Calls Try.prog 24 #[.int .u8 (x.toNat : Int)] w fun e w' => e = .returned (.slice (some ⟨w.heap.size, 0, none⟩) 512 512) ∧ Rd w' w'.heap.size (some ⟨w.heap.size, 0, none⟩) 512 (full x) ∧ Below w.heap.size w w' := by
  refine (sector_any x w).mono ?_
  rintro e w' ⟨h1, h2, h3⟩
  have := h2.reads
  rw [List.length_replicate] at this
  exact ⟨h1, this, h3⟩

set_option maxRecDepth 100000 in
set_option maxHeartbeats 2000000 in
theorem stands_long (A0 A1 K : Option Addr) (n0 c0 n1 c1 kn kc : Nat) (w : World) (hl : 60 < n0 ∨ 60 < n1) :
    Calls Try.prog 5 #[.slice A0 n0 c0, .slice A1 n1 c1, .slice K kn kc] w fun e w' => e = .returned (.bool true) ∧ Below w.heap.size w w' := by
  by_cases h1 : 60 < n0
  · clear hl
    go_enter Try.func5, Try.ntmps5
    go_wp2_with fail
    refine (up4_any _).mono ?_
    rintro e w1 ⟨rfl, hb1⟩
    go_wp2_with fail
    refine (dnew_yes w1 4 (by omega) (by omega)).mono ?_
    rintro e w2 ⟨rfl, _, hb2⟩
    go_wp2
    go_ret
    exact ⟨rfl, hb1.trans (hb2.mono hb1.size)⟩
  · have h2 : 60 < n1 := by omega
    clear hl
    go_enter Try.func5, Try.ntmps5
    go_wp2_with fail
    refine (up4_any _).mono ?_
    rintro e w1 ⟨rfl, hb1⟩
    go_wp2_with fail
    refine (dnew_yes w1 4 (by omega) (by omega)).mono ?_
    rintro e w2 ⟨rfl, _, hb2⟩
    go_wp2
    go_ret
    exact ⟨rfl, hb1.trans (hb2.mono hb1.size)⟩

/-- The disk of the law: what waits is what the deeds write. -/
def LawDk (S : Nat → Prop) (w : World) (g h : Nat) (bs : List UInt8) (ds : List Dd) : Prop := ∃ W cw ws, Dk S w g h 2048 W cw bs ws (-1) false ∧ ws.map Wr.two = ds.map Dd.wr

theorem pick4 (n : Int) (p : Nat) (hp : (n % 4).toNat = p) (w : World) : Calls Try.prog 23 #[.int .i64 n, .int .i64 4] w fun e w' => e = .returned (.int .i64 (p : Int)) ∧ w = w' := by
  subst hp
  exact pick_any n 4 w (by omega) (by omega)
theorem str_eq (a b : List UInt8) : ((strB a).toList == (strB b).toList) = decide (a = b) := by
  unfold strB
  simp
  by_cases h : a = b <;> simp [h]
theorem okB_succ (was now : List UInt8) (ds : List Dd) (kl s k : Nat) (d : Dd) (h : ds[k]? = some d) : okB was now ds kl s (k + 1) = (okB was now ds kl s k || ((d.i % 4).toNat == s && (decide (k < kl) && decide (sec now s = full d.x)))) := by
  simp only [okB, h]
theorem bool_v {a b : Bool} (h : a = b) : Value.bool a = .bool b := by rw [h]

theorem Kp.to {B : Nat} {S : Nat → Prop} {w w' : World} {K : Option Addr} {kb : List Bool} (h : Kp (fun k => B ≤ k) w K kb) (hb : Below B w w') (hS : ∀ j, S j → B ≤ j) : Kp S w' K kb := fun hn => by
  obtain ⟨b, o, e, h1, h2, h3⟩ := h hn
  exact ⟨b, o, e, Nat.lt_of_lt_of_le h1 hb.size, fun hs => h2 (hS b hs), fun j u hu => (hb.cell (p := ⟨b, o + j, none⟩) (Nat.lt_of_not_le h2)).trans (h3 j u hu)⟩

theorem law_write {S : Nat → Prop} {w : World} {g h : Nat} {bs : List UInt8} {ds : List Dd} (k : LawDk S w g h bs ds) (hl : bs.length = 2048) (hds : ds.length ≤ 60) (d : Dd) (p : Nat) (hp : (d.i % 4).toNat = p) (A : Option Addr) (cA : Nat) (hr : Rd w w.heap.size A 512 (full d.x)) (hS : ∀ j, w.heap.size ≤ j → S j) :
    Calls Try.prog 22 #[.pointer (some ⟨g, 0, none⟩), .int .i64 (p : Int), .slice A 512 cA] w fun e w' => e = .returned .nilIface ∧ LawDk S w' g h bs (ds ++ [d]) ∧ Tch S w w' := by
  obtain ⟨W, cw, ws, k, hw⟩ := k
  subst hp
  have h1 := Int.emod_nonneg d.i (b := 4) (by omega)
  have h2 := Int.emod_lt_of_pos d.i (b := 4) (by omega)
  have hlen : ws.length = ds.length := by have := congrArg List.length hw; simpa using this
  refine (dwrite_neg k (by omega) (by omega) (by omega) (d.i % 4).toNat (by omega) A cA (full d.x) (full_length _) hr).mono ?_
  rintro e w' ⟨he, ⟨W', cw', b, cb, k'⟩, t⟩
  refine ⟨he, ⟨W', cw', _, k'.more fun j hj => ?_, ?_⟩, t⟩
  · rcases (k'.foot hj).1 with h | h
    · exact h
    · exact hS j h.1
  · rw [List.map_append, List.map_append, hw]
    rfl

set_option maxRecDepth 100000 in
set_option maxHeartbeats 8000000 in
theorem stands_main (A0 A1 K : Option Addr) (c0 c1 kc : Nat) (l more : List Dd) (kb : List Bool) (w : World) (h0 : l.length ≤ 60) (h1 : more.length ≤ 60) (hk : kb.length ≤ 9223372036854775807)
    (hl : Dds w w.heap.size A0 l) (hm : Dds w w.heap.size A1 more) (hkp : Kp (fun k => w.heap.size ≤ k) w K kb) :
    Calls Try.prog 5 #[.slice A0 l.length c0, .slice A1 more.length c1, .slice K kb.length kc] w fun e w' => e = .returned (.bool true) ∧ Below w.heap.size w w' := by
  obtain ⟨B, hB⟩ : ∃ B, w.heap.size = B := ⟨_, rfl⟩
  rw [hB] at hl hm hkp ⊢
  have s1 : decide ((60 : Int) < (l.length : Int)) = false := decide_eq_false (by omega)
  have s2 : decide ((60 : Int) < (more.length : Int)) = false := decide_eq_false (by omega)
  go_enter Try.func5, Try.ntmps5
  go_wp2_with fail
  refine (up4_any _).mono ?_
  rintro e w1 ⟨rfl, hb1⟩
  rw [hB] at hb1
  have hs1 := hb1.size
  rw [hB] at hs1
  go_wp2_with fail
  refine (dnew_yes w1 4 (by omega) (by omega)).mono ?_
  rintro e w2 ⟨rfl, k2, hb2⟩
  obtain ⟨g, hg⟩ : ∃ g, w1.heap.size + 1 = g := ⟨_, rfl⟩
  obtain ⟨h, hh⟩ : ∃ h, w1.heap.size = h := ⟨_, rfl⟩
  obtain ⟨z, hz⟩ : ∃ z, List.replicate (4 * 512) (0 : UInt8) = z := ⟨_, rfl⟩
  have hzl : z.length = 2048 := by rw [← hz]; simp
  rw [hg] at k2 ⊢
  rw [hz] at k2
  have k2' : LawDk (fun k => B ≤ k) w2 g w1.heap.size z [] := ⟨none, 0, [], k2.more fun j hj => by
    rcases (k2.foot hj).1 with h | h
    · cases h
    · omega, rfl⟩
  rw [hh] at k2'
  have hb12 : Below B w w2 := hb1.trans (hb2.mono hs1)
  have HZL := Lib.hid hzl
  have HB := Lib.hid hB
  have HL := Lib.hid hl
  have HM := Lib.hid hm
  have HKP := Lib.hid hkp
  have K2 := Lib.hid k2'
  have HB2 := Lib.hid hb12
  have HS2 : Hid (B ≤ w2.heap.size) := Nat.le_trans hs1 hb2.size
  clear hg hh hz hzl k2 k2' hb12 hb1 hs1 hb2 hl hm hkp hB
  go_wp2
  clear s1 s2
  go_loopw [9] (fun i wr => ∃ j : Nat, j ≤ l.length ∧ i = .int .i64 j ∧ LawDk (fun k => B ≤ k) wr g h z (l.take j) ∧ Below B w wr ∧ B ≤ wr.heap.size) (fun i _ => l.length - (intOf i).toNat)
  case atStart => exact ⟨0, Nat.zero_le _, rfl, K2.out, HB2.out, HS2.out⟩
  case round =>
    obtain ⟨j, hj, rfl, kr, hb, hs⟩ := hrel
    by_cases hlt : j < l.length
    · obtain ⟨d, hd⟩ : ∃ d, l[j]? = some d := ⟨l[j], List.getElem?_eq_getElem hlt⟩
      obtain ⟨b, o, rfl, hbB, hc⟩ := (HL.out.below hb) (by omega)
      obtain ⟨_, d1, _, d3, _, _⟩ := hc j d hd
      obtain ⟨w3, hw3⟩ : ∃ w3, wr.drew = w3 := ⟨_, rfl⟩
      have k3 : LawDk (fun k => B ≤ k) w3 g h z (l.take j) := by
        obtain ⟨W, cw, ws, k, e⟩ := kr
        rw [← hw3]
        exact ⟨W, cw, ws, k.drew, e⟩
      have b3 : Below B w w3 := by rw [← hw3]; exact hb.drew
      have s3 : B ≤ w3.heap.size := by rw [← hw3]; exact hs
      have d1' : w3.cell? ⟨b, o + j * 6 + 1, none⟩ = some (.int .i64 d.i) := by rw [← hw3]; exact d1
      have d3' : w3.cell? ⟨b, o + j * 6 + 3, none⟩ = some (.int .u8 (d.x.toNat : Int)) := by rw [← hw3]; exact d3
      obtain ⟨p, hp⟩ : ∃ p, (d.i % 4).toNat = p := ⟨_, rfl⟩
      have hpk := pick_any d.i 4 w3 (by omega) (by omega)
      rw [show d.i % ((4 : Nat) : Int) = d.i % 4 from rfl, hp] at hpk
      have HPK := Lib.hid hpk
      have HP := Lib.hid hp
      have HW3 := Lib.hid hw3
      have HD := Lib.hid hd
      have K3 := Lib.hid k3
      have HB3 := Lib.hid b3
      have HS3 := Lib.hid s3
      clear hp hpk hw3 hd k3 b3 s3 d1 d3 hc kr hb hs
      go_wp2_with fail
      refine wp_region_tail B [([0, 1, 2, 3, 4, 5, 7, 8, 9, 10, 11], 6), ([], 12)] [] [13, 14] (by kernel_rfl) (by kernel_rfl) (by kernel_rfl) (fun _ _ _ _ _ h => h) ?_
      rw [HW3.out]
      have q1 : ∀ x : LaterB B w3, x.val.cell? ⟨b, o + j * 6 + 1, none⟩ = some (.int .i64 d.i) := fun x => (x.ext.cell (p := ⟨b, _, none⟩) hbB).trans d1'
      have q3 : ∀ x : LaterB B w3, x.val.cell? ⟨b, o + j * 6 + 3, none⟩ = some (.int .u8 (d.x.toNat : Int)) := fun x => (x.ext.cell (p := ⟨b, _, none⟩) hbB).trans d3'
      have hji : (j : Int) < (l.length : Int) := by omega
      refine tail_cons (l := ?seg1) ?hseg1 ?_
      case hseg1 => simp only [pick, List.getElem?_toArray, List.getElem?_cons_succ, List.getElem?_cons_zero]; rfl
      repeat (go_big_quiet_step (fail))
      refine wpQuiet_nil ?_
      clear q1 q3 d1' d3'
      refine tail_call (vs := #[.int .i64 d.i, .int .i64 4]) Try.call23 rfl rfl rfl (R := fun r w' => r = .int .i64 (p : Int) ∧ w' = w3) (HPK.out.mono ?_) B (Nat.le_refl _) ?_
      · rintro e w' ⟨rfl, rfl⟩
        exact ⟨_, rfl, Below.refl _ _, rfl, rfl⟩
      rintro r w4 _ ⟨rfl, rfl⟩
      refine tail_cons (l := ?seg2) ?hseg2 ?_
      case hseg2 => rfl
      refine wpQuiet_nil ?_
      simp only [Act.put, List.setIfInBounds_toArray, List.set_cons_zero, List.set_cons_succ]
      refine tail_call (vs := #[.int .u8 (d.x.toNat : Int)]) Try.call24 rfl rfl rfl (R := fun r w' => r = .slice (some ⟨w4.heap.size, 0, none⟩) 512 512 ∧ Rd w' w'.heap.size (some ⟨w4.heap.size, 0, none⟩) 512 (full d.x) ∧ Below w4.heap.size w4 w') ((sector_full d.x w4).mono ?_) B (Nat.le_refl _) ?_
      · rintro e w' ⟨rfl, f, hb⟩
        exact ⟨_, rfl, hb.mono HS3.out, rfl, f, hb⟩
      rintro r w5 _ ⟨rfl, r5, b5⟩
      have k5 : LawDk (fun k => B ≤ k) w5 g h z (l.take j) := by
        obtain ⟨W, cw, ws, k, e⟩ := K3.out
        exact ⟨W, cw, ws, k.below b5, e⟩
      have HWR := Lib.hid (law_write k5 HZL.out (by simp; omega) d p HP.out _ 512 r5 (fun k hk => Nat.le_trans (Nat.le_trans HS3.out b5.size) hk))
      have HB5 := Lib.hid (HB3.out.trans (b5.mono HS3.out))
      have HS5 : Hid (B ≤ w5.heap.size) := Nat.le_trans HS3.out b5.size
      clear k5 r5 b5 K3 HB3
      refine tail_last (l := ?la3) (t := ?tl3) ?hla3 ?htl3 ?_
      case hla3 => rfl
      case htl3 => simp only [pick, List.getElem?_toArray, List.getElem?_cons_succ, List.getElem?_cons_zero]; rfl
      refine wpQuiet_nil ?_
      simp only [Act.put, List.setIfInBounds_toArray, List.set_cons_zero, List.set_cons_succ]
      go_wp2_with fail
      with_reducible refine HWR.out.mono ?_
      rintro e w6 ⟨rfl, k6, t6⟩
      have e6 : l.take j ++ [d] = l.take (j + 1) := by rw [List.take_add_one, HD.out]; rfl
      rw [e6] at k6
      have K6 := Lib.hid k6
      have HB6 := Lib.hid (HB5.out.trans (t6.below (fun _ h => h) HS5.out))
      have HS6 : Hid (B ≤ w6.heap.size) := Nat.le_trans HS5.out t6.size
      clear k6 e6 t6 HWR
      go_wp2
      go_roundw
      case rel => exact ⟨j + 1, by omega, by go_num, K6.out, HB6.out, HS6.out⟩
      case measure => simp [intOf]; omega
    · obtain rfl : j = l.length := by omega
      rw [List.take_length] at kr
      obtain ⟨W, cw, ws, k, hw⟩ := kr
      have hfl := dflush_ok k (by rw [HZL.out]; omega)
      obtain ⟨was, hwas⟩ : ∃ was, stand z (ws.map Wr.two) = was := ⟨_, rfl⟩
      have hwl : was.length = 2048 := by rw [← hwas, stand_length _ _ k.fits, HZL.out]
      rw [hwas] at hfl
      have HFL := Lib.hid hfl
      have HWL := Lib.hid hwl
      have HBr := Lib.hid hb
      have HSr := Lib.hid hs
      clear hfl hwl hwas hw k hb hs HB2 HS2 K2 HL
      go_wp2_with fail
      with_reducible refine HFL.out.mono ?_
      rintro e w4 ⟨rfl, k4, t4⟩
      have HY := Lib.hid (dbytes_any k4 (by rw [HWL.out]; omega))
      have K4 := Lib.hid k4
      have HB4 := Lib.hid (HBr.out.trans (t4.below (fun _ h => h) HSr.out))
      have HS4 : Hid (B ≤ w4.heap.size) := Nat.le_trans HSr.out t4.size
      clear k4 t4 HFL HBr HSr
      go_wp2_with fail
      with_reducible refine HY.out.mono ?_
      rintro e w5 ⟨A5, c5, rfl, o5, b5⟩
      obtain ⟨wb, c5', e5, hc5, _⟩ := own_rd o5 (by rw [HWL.out]; omega)
      injection e5 with e5 _ e6
      subst e5 e6
      have f5 := Fil.of_own o5
      have hwb := (o5.lt wb rfl).1
      rw [HWL.out] at hc5 ⊢
      have k5 : LawDk (fun k => B ≤ k ∧ k ≠ wb) w5 g h was [] := ⟨none, 0, [], (K4.out.below b5).more fun i hi => ⟨((K4.out.foot hi).1), fun e => by have := (K4.out.foot hi).2; omega⟩, rfl⟩
      have K5 := Lib.hid k5
      have F5 := Lib.hid f5
      have HB5 := Lib.hid (HB4.out.trans (b5.mono HS4.out))
      have HS5 : Hid (B ≤ w5.heap.size) := Nat.le_trans HS4.out b5.size
      clear k5 f5 b5 o5 hwb K4 HY HB4 HS4
      go_wp2
      go_loopw [12] (fun i wr => ∃ j : Nat, j ≤ more.length ∧ i = .int .i64 j ∧ LawDk (fun k => B ≤ k ∧ k ≠ wb) wr g h was (more.take j) ∧ Fil wr wb was ∧ Below B w wr ∧ B ≤ wr.heap.size) (fun i _ => more.length - (intOf i).toNat)
      case atStart => exact ⟨0, Nat.zero_le _, rfl, K5.out, F5.out, HB5.out, HS5.out⟩
      case round =>
        obtain ⟨j, hj, rfl, kr, fr, hb, hs⟩ := hrel
        by_cases hlt : j < more.length
        · obtain ⟨d, hd⟩ : ∃ d, more[j]? = some d := ⟨more[j], List.getElem?_eq_getElem hlt⟩
          obtain ⟨b, o, rfl, hbB, hc⟩ := (HM.out.below hb) (by omega)
          obtain ⟨_, d1, _, d3, _, _⟩ := hc j d hd
          obtain ⟨w3, hw3⟩ : ∃ w3, wr.drew = w3 := ⟨_, rfl⟩
          have k3 : LawDk (fun k => B ≤ k ∧ k ≠ wb) w3 g h was (more.take j) := by
            obtain ⟨W, cw, ws, k, e⟩ := kr
            rw [← hw3]
            exact ⟨W, cw, ws, k.drew, e⟩
          have b3 : Below B w w3 := by rw [← hw3]; exact hb.drew
          have s3 : B ≤ w3.heap.size := by rw [← hw3]; exact hs
          have d1' : w3.cell? ⟨b, o + j * 6 + 1, none⟩ = some (.int .i64 d.i) := by rw [← hw3]; exact d1
          have d3' : w3.cell? ⟨b, o + j * 6 + 3, none⟩ = some (.int .u8 (d.x.toNat : Int)) := by rw [← hw3]; exact d3
          obtain ⟨p, hp⟩ : ∃ p, (d.i % 4).toNat = p := ⟨_, rfl⟩
          have hpk := pick_any d.i 4 w3 (by omega) (by omega)
          rw [show d.i % ((4 : Nat) : Int) = d.i % 4 from rfl, hp] at hpk
          have HPK := Lib.hid hpk
          have HP := Lib.hid hp
          have HW3 := Lib.hid hw3
          have HD := Lib.hid hd
          have K3 := Lib.hid k3
          have HB3 := Lib.hid b3
          have HS3 := Lib.hid s3
          have f3 : Fil w3 wb was := by rw [← hw3]; exact fr
          have F3 := Lib.hid f3
          clear f3 fr hp hpk hw3 hd k3 b3 s3 d1 d3 hc kr hb hs
          go_wp2_with fail
          refine wp_region_tail B [([0, 1, 2, 3, 4, 5, 7, 8, 9, 10, 11], 6), ([], 12)] [] [13, 14] (by kernel_rfl) (by kernel_rfl) (by kernel_rfl) (fun _ _ _ _ _ h => h) ?_
          rw [HW3.out]
          have q1 : ∀ x : LaterB B w3, x.val.cell? ⟨b, o + j * 6 + 1, none⟩ = some (.int .i64 d.i) := fun x => (x.ext.cell (p := ⟨b, _, none⟩) hbB).trans d1'
          have q3 : ∀ x : LaterB B w3, x.val.cell? ⟨b, o + j * 6 + 3, none⟩ = some (.int .u8 (d.x.toNat : Int)) := fun x => (x.ext.cell (p := ⟨b, _, none⟩) hbB).trans d3'
          have hji : (j : Int) < (more.length : Int) := by omega
          refine tail_cons (l := ?seg3) ?hseg3 ?_
          case hseg3 => simp only [pick, List.getElem?_toArray, List.getElem?_cons_succ, List.getElem?_cons_zero]; rfl
          repeat (go_big_quiet_step (fail))
          refine wpQuiet_nil ?_
          clear q1 q3 d1' d3'
          refine tail_call (vs := #[.int .i64 d.i, .int .i64 4]) Try.call23 rfl rfl rfl (R := fun r w' => r = .int .i64 (p : Int) ∧ w' = w3) (HPK.out.mono ?_) B (Nat.le_refl _) ?_
          · rintro e w' ⟨rfl, rfl⟩
            exact ⟨_, rfl, Below.refl _ _, rfl, rfl⟩
          rintro r w4 _ ⟨rfl, rfl⟩
          refine tail_cons (l := ?seg4) ?hseg4 ?_
          case hseg4 => rfl
          refine wpQuiet_nil ?_
          simp only [Act.put, List.setIfInBounds_toArray, List.set_cons_zero, List.set_cons_succ]
          refine tail_call (vs := #[.int .u8 (d.x.toNat : Int)]) Try.call24 rfl rfl rfl (R := fun r w' => r = .slice (some ⟨w4.heap.size, 0, none⟩) 512 512 ∧ Rd w' w'.heap.size (some ⟨w4.heap.size, 0, none⟩) 512 (full d.x) ∧ Below w4.heap.size w4 w') ((sector_full d.x w4).mono ?_) B (Nat.le_refl _) ?_
          · rintro e w' ⟨rfl, f, hb⟩
            exact ⟨_, rfl, hb.mono HS3.out, rfl, f, hb⟩
          rintro r w5 _ ⟨rfl, r5, b5⟩
          have k5 : LawDk (fun k => B ≤ k ∧ k ≠ wb) w5 g h was (more.take j) := by
            obtain ⟨W, cw, ws, k, e⟩ := K3.out
            exact ⟨W, cw, ws, k.below b5, e⟩
          have HWR := Lib.hid (law_write k5 HWL.out (by simp; omega) d p HP.out _ 512 r5 (fun k hk => ⟨Nat.le_trans (Nat.le_trans HS3.out b5.size) hk, fun e => by have := F3.out.lt; have := b5.size; omega⟩))
          have HB5 := Lib.hid (HB3.out.trans (b5.mono HS3.out))
          have HS5 : Hid (B ≤ w5.heap.size) := Nat.le_trans HS3.out b5.size
          have F5 := Lib.hid (F3.out.keep (b5.block _ F3.out.lt))
          clear k5 r5 b5 K3 HB3
          refine tail_last (l := ?la4) (t := ?tl4) ?hla4 ?htl4 ?_
          case hla4 => rfl
          case htl4 => simp only [pick, List.getElem?_toArray, List.getElem?_cons_succ, List.getElem?_cons_zero]; rfl
          refine wpQuiet_nil ?_
          simp only [Act.put, List.setIfInBounds_toArray, List.set_cons_zero, List.set_cons_succ]
          go_wp2_with fail
          with_reducible refine HWR.out.mono ?_
          rintro e w6 ⟨rfl, k6, t6⟩
          have e6 : more.take j ++ [d] = more.take (j + 1) := by rw [List.take_add_one, HD.out]; rfl
          rw [e6] at k6
          have K6 := Lib.hid k6
          have HB6 := Lib.hid (HB5.out.trans (t6.below (fun _ h => h.1) HS5.out))
          have HS6 : Hid (B ≤ w6.heap.size) := Nat.le_trans HS5.out t6.size
          have F6 := Lib.hid (F5.out.keep (t6.block _ F5.out.lt (fun h => h.2 rfl)))
          clear k6 e6 t6 HWR
          go_wp2
          go_roundw
          case rel => exact ⟨j + 1, by omega, by go_num, K6.out, F6.out, HB6.out, HS6.out⟩
          case measure => simp [intOf]; omega
        · obtain rfl : j = more.length := by omega
          rw [List.take_length] at kr
          obtain ⟨W, cw, ws, k, hw⟩ := kr
          obtain ⟨w6, hw6⟩ : ∃ w6, wr.drew = w6 := ⟨_, rfl⟩
          have k6 : Dk (fun k => B ≤ k ∧ k ≠ wb) w6 g h 2048 W cw was ws (-1) false := by rw [← hw6]; exact k.drew
          have f6 : Fil w6 wb was := by rw [← hw6]; exact fr
          have b6 : Below B w w6 := by rw [← hw6]; exact hb.drew
          have s6 : B ≤ w6.heap.size := by rw [← hw6]; exact hs
          have r6 := f6.reads
          rw [HWL.out] at r6
          have HW := Lib.hid hw
          have HW6 := Lib.hid hw6
          have HY := Lib.hid (dbytes_any k6 (by rw [HWL.out]; omega))
          have K6 := Lib.hid k6
          have F6 := Lib.hid f6
          have HB6 := Lib.hid b6
          have HS6 := Lib.hid s6
          clear hw k hw6 k6 f6 b6 s6 fr hb hs K5 F5 HB5 HS5
          go_wp2_with fail
          refine wp_region_tail w6.heap.size [([0, 3, 4], 1)] [2, 5, 6, 7] [8, 9, 10] (by kernel_rfl) (by kernel_rfl) (by kernel_rfl) (fun _ _ _ _ _ h => h) ?_
          rw [HW6.out]
          have q1 := conv_B r6
          refine tail_cons (l := ?seg5) ?hseg5 ?_
          case hseg5 => simp only [pick, List.getElem?_toArray, List.getElem?_cons_succ, List.getElem?_cons_zero]; rfl
          repeat (go_big_quiet_step (fail))
          refine wpQuiet_nil ?_
          clear q1 r6
          refine tail_call2 (vs := #[.pointer (some ⟨g, 0, none⟩)]) Try.call20 rfl rfl rfl (R := fun r w' => ∃ A c, r = .slice A 2048 c ∧ Rd w' w'.heap.size A 2048 was) (HY.out.mono ?_) ?_
          · rintro e w' ⟨A', c', rfl, ho, hb⟩
            rw [HWL.out] at ho
            exact ⟨_, by rw [HWL.out], hb, A', c', rfl, (Rd.own' ho).1⟩
          rintro r w7 b7 ⟨A7, c7, rfl, r7⟩
          refine ⟨w7.heap.size, b7.size, ?_⟩
          have q1 := conv_B r7
          refine tail_last (l := ?la5) (t := ?tl5) ?hla5 ?htl5 ?_
          case hla5 => simp only [pick, List.getElem?_toArray, List.getElem?_cons_succ, List.getElem?_cons_zero]; rfl
          case htl5 => simp only [pick, List.getElem?_toArray, List.getElem?_cons_succ, List.getElem?_cons_zero]; rfl
          simp only [Act.put, List.setIfInBounds_toArray, List.set_cons_zero, List.set_cons_succ]
          repeat (go_big_quiet_step (fail))
          refine wpQuiet_nil ?_
          have k7 := K6.out.below b7
          have hbo := dboot_any (ck := kc) k7 (by rw [HWL.out]; omega) (HKP.out.to (HB6.out.trans (b7.mono HS6.out)) (S := fun k => B ≤ k ∧ k ≠ wb) (fun _ h => h.1)) hk
          rw [HW.out] at hbo
          obtain ⟨now, hnow⟩ : ∃ now, stand was (kept (more.map Dd.wr) kb) = now := ⟨_, rfl⟩
          have hnl : now.length = 2048 := by
            rw [← hnow, ← HW.out, stand_length _ _ (fun x hx => K6.out.fits x (kept_mem _ _ _ hx)), HWL.out]
          rw [hnow] at hbo
          have HBO := Lib.hid hbo
          have HNOW := Lib.hid hnow
          have HNL := Lib.hid hnl
          have F7 := Lib.hid (F6.out.keep (b7.block _ F6.out.lt))
          have HB7 := Lib.hid (HB6.out.trans (b7.mono HS6.out))
          have HS7 : Hid (B ≤ w7.heap.size) := Nat.le_trans HS6.out b7.size
          clear q1 r7 b7 k7 hbo hnow hnl HY K6 F6 HB6 HS6
          go_wp2_with fail
          with_reducible refine HBO.out.mono ?_
          rintro e w8 ⟨rfl, k8, t8⟩
          have HY := Lib.hid (dbytes_any k8 (by rw [HNL.out]; omega))
          have K8 := Lib.hid k8
          have F8 := Lib.hid (F7.out.keep (t8.block _ F7.out.lt (fun h => h.2 rfl)))
          have HB8 := Lib.hid (HB7.out.trans (t8.below (fun _ h => h.1) HS7.out))
          have HS8 : Hid (B ≤ w8.heap.size) := Nat.le_trans HS7.out t8.size
          clear k8 t8 HBO F7 HB7 HS7
          go_wp2_with fail
          with_reducible refine HY.out.mono ?_
          rintro e w9 ⟨A9, c9, rfl, o9, b9⟩
          obtain ⟨nb, c9', e9, hc9, _⟩ := own_rd o9 (by rw [HNL.out]; omega)
          injection e9 with e9 _ e10
          subst e9 e10
          have HWT := dwaiting_any (K8.out.below b9)
          rw [show (([] : List Wr).length : Int) = 0 from rfl] at HWT
          have HWT := Lib.hid HWT
          have FN := Lib.hid (Fil.of_own o9)
          have F9 := Lib.hid (F8.out.keep (b9.block _ F8.out.lt))
          have HB9 := Lib.hid (HB8.out.trans (b9.mono HS8.out))
          have HS9 : Hid (B ≤ w9.heap.size) := Nat.le_trans HS8.out b9.size
          rw [HNL.out] at hc9 ⊢
          clear o9 b9 K8 F8 HB8 HS8 HY
          go_wp2_with fail
          with_reducible refine HWT.out.mono ?_
          rintro e w10 ⟨rfl, rfl⟩
          clear HWT
          go_wp2
          go_loopw [15] (fun i wr => ∃ s : Nat, s ≤ 4 ∧ i = .int .i64 s ∧ Below w9.heap.size w9 wr) (fun i _ => 4 - (intOf i).toNat)
          case atStart => exact ⟨0, by omega, rfl, Below.refl _ _⟩
          case round =>
            obtain ⟨s, hs4, rfl, hbr⟩ := hrel
            by_cases hlt : s < 4
            · have rn := ((FN.out.keep (hbr.block _ FN.out.lt)).reads)
              have rw_ := ((F9.out.keep (hbr.block _ F9.out.lt)).reads)
              rw [HNL.out] at rn
              rw [HWL.out] at rw_
              have qn := fun c => conv_rd (c := c) (rn.sub (512 * s) 512 (by omega))
              have qw := fun c => conv_rd (c := c) (rw_.sub (512 * s) 512 (by omega))
              rw [Nat.zero_add] at qn qw
              rw [show (now.drop (512 * s)).take 512 = sec now s from rfl] at qn
              rw [show (was.drop (512 * s)).take 512 = sec was s from rfl] at qw
              have n1 : ¬ c9 = 512 * s := by omega
              have n2 : ¬ c5 = 512 * s := by omega
              obtain ⟨a, ha⟩ : ∃ a, sec now s = a := ⟨_, rfl⟩
              obtain ⟨b, hb⟩ : ∃ b, sec was s = b := ⟨_, rfl⟩
              rw [ha] at qn
              rw [hb] at qw
              have HA := Lib.hid ha
              have HBB := Lib.hid hb
              have e1 : 512 * s + 512 - 512 * s = 512 := by omega
              have s4 : decide ((s : Int) < 4) = true := decide_eq_true (by omega)
              clear ha hb rn rw_
              go_wp2
              rw [e1]
              clear qn qw e1 n1 n2 s4
              go_loopw [17, 18] (fun ok i wr => ∃ k : Nat, k ≤ more.length ∧ i = .int .i64 k ∧ ok = .bool (okB was now more kb.length s k) ∧ Below w9.heap.size w9 wr) (fun _ i _ => more.length - (intOf i).toNat)
              case atStart => exact ⟨0, Nat.zero_le _, rfl, bool_v (by rw [str_eq, ← HA.out, ← HBB.out]; rfl), hbr⟩
              case round =>
                clear hbr
                obtain ⟨k, hk4, rfl, rfl, hbr⟩ := hrel
                by_cases hlk : k < more.length
                · obtain ⟨d, hd⟩ : ∃ d, more[k]? = some d := ⟨more[k], List.getElem?_eq_getElem hlk⟩
                  obtain ⟨b', o, rfl, hbB, hc⟩ := (HM.out.below (HB9.out.trans (hbr.mono HS9.out))) (by omega)
                  obtain ⟨_, d1, _, d3, _, _⟩ := hc k d hd
                  have hsu := okB_succ was now more kb.length s k d hd
                  obtain ⟨p, hp⟩ : ∃ p, (d.i % 4).toNat = p := ⟨_, rfl⟩
                  have hpk := pick4 d.i p hp wr
                  rw [hp] at hsu
                  rw [HA.out] at hsu
                  have HPK := Lib.hid hpk
                  have HSC := Lib.hid (sector_full d.x wr)
                  have HBr := Lib.hid hbr
                  clear hd hp hpk hc hbr
                  cases hok : okB was now more kb.length s k with
                  | true =>
                    rw [hok, Bool.true_or] at hsu
                    have HSU := Lib.hid hsu
                    clear hsu hok
                    go_wp2
                    go_roundw
                    case rel => exact ⟨k + 1, by omega, by go_num, bool_v HSU.out.symm, HBr.out⟩
                    case measure => simp [intOf]; omega
                  | false =>
                    rw [hok, Bool.false_or] at hsu
                    by_cases hps : p = s
                    · have hq : ((p : Int) == (s : Int)) = true := by rw [beq_iff_eq]; omega
                      have hq2 : (p == s) = true := by rw [beq_iff_eq]; exact hps
                      rw [hq2, Bool.true_and] at hsu
                      by_cases hkk : k < kb.length
                      · rw [decide_eq_true hkk, Bool.true_and] at hsu
                        have HSU := Lib.hid hsu
                        clear hsu hok hps hq2
                        go_wp2_with fail
                        with_reducible refine HPK.out.mono ?_
                        rintro e w11 ⟨rfl, rfl⟩
                        go_wp2_with fail
                        with_reducible refine HSC.out.mono ?_
                        rintro e w12 ⟨rfl, r12, b12⟩
                        have q12 := fun c => conv_rd (c := c) r12
                        have HB12 := Lib.hid (HBr.out.trans (b12.mono HBr.out.size))
                        clear r12 b12
                        go_wp2
                        go_roundw
                        case rel => exact ⟨k + 1, by omega, by go_num, bool_v (by rw [HSU.out, str_eq]), HB12.out⟩
                        case measure => simp [intOf]; omega
                      · rw [decide_eq_false hkk, Bool.false_and] at hsu
                        have HSU := Lib.hid hsu
                        clear hsu hok hps hq2
                        go_wp2_with fail
                        with_reducible refine HPK.out.mono ?_
                        rintro e w11 ⟨rfl, rfl⟩
                        go_wp2
                        go_roundw
                        case rel => exact ⟨k + 1, by omega, by go_num, bool_v HSU.out.symm, HBr.out⟩
                        case measure => simp [intOf]; omega
                    · have hq : ((p : Int) == (s : Int)) = false := by rw [beq_eq_false_iff_ne]; omega
                      have hq2 : (p == s) = false := by rw [beq_eq_false_iff_ne]; exact hps
                      rw [hq2, Bool.false_and] at hsu
                      have HSU := Lib.hid hsu
                      clear hsu hok hps hq2
                      go_wp2_with fail
                      with_reducible refine HPK.out.mono ?_
                      rintro e w11 ⟨rfl, rfl⟩
                      go_wp2
                      go_roundw
                      case rel => exact ⟨k + 1, by omega, by go_num, bool_v HSU.out.symm, HBr.out⟩
                      case measure => simp [intOf]; omega
                · obtain rfl : k = more.length := by omega
                  have hall := okB_all was more kb s HWL.out
                  rw [HNOW.out] at hall
                  rw [hall]
                  clear hall
                  go_wp2
                  go_roundw
                  case rel => exact ⟨s + 1, by omega, by go_num, hbr⟩
                  case measure => simp [intOf]; omega
            · go_wp2
              go_ret
              exact ⟨rfl, HB9.out.trans (hbr.mono HS9.out)⟩
end Go.Proofs.Ytbalmacabojbpaa
