/- The contracts of an arena's Clone; of the law's words: at, low, MayArena. -/
import Derived.Test.YtbalmacabojbpaaRefMore
namespace Go.Proofs.Ytbalmacabojbpaa
open Go.RowKit

section
variable {w : World} {g base cap c : Nat} {A : Option Addr} {bs : List UInt8}
/-- A new arena. -/
def Cloned (base cap : Nat) (bs : List UInt8) (w : World) (e : Ending) (w' : World) : Prop :=
  ∃ g' A' c', e = .returned (.pointer (some ⟨g', 0, none⟩)) ∧ Ar w' 69 g' base cap A' c' bs ∧ Below w.heap.size w w' ∧ w.heap.size ≤ g' ∧ ∀ a, A' = some a → w.heap.size ≤ a.block

set_option maxRecDepth 100000 in
set_option maxHeartbeats 400000 in
theorem clone_any (h : Ar w 69 g base cap A c bs) (hl : bs.length ≤ 1000000) :
    Calls Try.prog 46 #[.pointer (some ⟨g, 0, none⟩)] w fun e w' => Cloned base cap bs w e w' := by
  obtain ⟨w0, hw0⟩ : ∃ w0, w.drew = w0 := ⟨_, rfl⟩
  have h0 : Ar w0 69 g base cap A c bs := by rw [← hw0]; exact h.drew
  have hz0 : w0.heap.size = w.heap.size := by rw [← hw0]; rfl
  have hb0 : Below w.heap.size w w0 := by rw [← hw0]; exact (Below.refl _ _).drew
  have hcz : A = none → c = 0 := fun e => by subst e; exact h.none_.2
  have HC := Lib.hid (sclone_any A c w0.heap.size bs w0 h0.reads (Nat.le_refl _) hcz hl)
  have HW0 := Lib.hid hw0
  have HB0 := Lib.hid hb0
  have HZ0 := Lib.hid hz0
  have H0 := Lib.hid h0
  clear hw0 h0 hz0 hb0 hcz h
  go_enter Try.func46, Try.ntmps46
  go_wp2_with fail
  refine wp_region_tail w0.heap.size [([0, 1, 2, 3, 4, 5, 6, 7, 8, 9, 10, 11], 12)] [13] [14, 15] (by kernel_rfl) (by kernel_rfl) (by kernel_rfl) (fun _ _ _ _ _ h => h) ?_
  rw [HW0.out]
  have t0 : ∀ x : LaterB w0.heap.size w0, x.val.cell? ⟨g, 0, none⟩ = some (.int .u64 (base : Int)) := fun x => (x.ext.cell (p := ⟨g, 0, none⟩) H0.out.lt).trans H0.out.c0
  have t1 : ∀ x : LaterB w0.heap.size w0, x.val.cell? ⟨g, 1, none⟩ = some (.int .i64 (cap : Int)) := fun x => (x.ext.cell (p := ⟨g, 1, none⟩) H0.out.lt).trans H0.out.c1
  have t2 : ∀ x : LaterB w0.heap.size w0, x.val.cell? ⟨g, 2, none⟩ = some (.slice A bs.length c) := fun x => (x.ext.cell (p := ⟨g, 2, none⟩) H0.out.lt).trans H0.out.c2
  refine tail_cons (l := ?seg1) ?hseg1 ?_
  case hseg1 => simp only [pick, List.getElem?_toArray, List.getElem?_cons_succ, List.getElem?_cons_zero]; rfl
  repeat (go_big_quiet_step (fail))
  refine wpQuiet_nil ?_
  clear t0 t1 t2
  refine tail_call (vs := #[.slice A bs.length c]) Try.call49 rfl rfl rfl (R := fun r w' => ∃ A' c', r = .slice A' bs.length c' ∧ w'.ownsRow w0.heap.size 5 1 (.slice A' bs.length c') bs.length (bs.map bv)) (HC.out.mono ?_) w0.heap.size (Nat.le_refl _) ?_
  · rintro e w' ⟨A', c', rfl, ho, hb⟩
    exact ⟨_, rfl, hb, A', c', rfl, ho⟩
  rintro r w1 hb1 ⟨A', c', rfl, ho⟩
  refine tail_last (l := ?la2) (t := ?tl2) ?hla2 ?htl2 ?_
  case hla2 => simp only [pick, List.getElem?_toArray, List.getElem?_cons_succ, List.getElem?_cons_zero]; rfl
  case htl2 => simp only [pick, List.getElem?_toArray, List.getElem?_cons_succ, List.getElem?_cons_zero]; rfl
  simp only [Act.put, List.setIfInBounds_toArray, List.set_cons_zero, List.set_cons_succ]
  repeat (go_big_quiet_step (fail))
  refine wpQuiet_nil ?_
  have HO := Lib.hid ho
  have HB1 := Lib.hid hb1
  clear ho hb1
  go_wp2
  go_ret
  have hb2 : Below w1.heap.size w1 (w1.alloc (.cells #[.int .u64 (base : Int), .int .i64 (cap : Int), .slice A' bs.length c'] 69)) := (Below.refl _ _).alloc (Nat.le_refl _) _
  refine ⟨w1.heap.size, A', c', rfl, ⟨heap_alloc_new w1 _, ?_⟩, ?_, ?_, ?_⟩
  · obtain ⟨h1, h2⟩ := own_below HO.out hb2
    refine ⟨h1, h2.imp id fun ⟨g', cap', cur, a, b, c⟩ => ⟨g', cap', cur, a, Nat.zero_le _, c⟩⟩
  · refine HB0.out.trans ?_
    rw [← HZ0.out]
    exact HB1.out.trans (hb2.mono HB1.out.size)
  · rw [← HZ0.out]; exact HB1.out.size
  · intro a e
    rw [← HZ0.out]
    exact (HO.out.lt a.block (by rw [e]; rfl)).1
end

theorem ret_u {a b : Int} (h : a = b) : Ending.returned (.int .u64 a) = .returned (.int .u64 b) := by rw [h]

/-- The address that a deed means. -/
def atN (what : Int) (base n : Nat) : Nat := if what < 0 then base + n % 3000 else n

set_option maxRecDepth 100000 in
set_option maxHeartbeats 400000 in
theorem at_any (w : World) (what : Int) (a0 a1 a2 a3 : Int) (xv : Int) (bA : Option Addr) (bn bc base n x : Nat) (hb : base ≤ 4611686018427387904) (hn : n < 18446744073709551616) (hx : atN what base n = x) :
    Calls Try.prog 32 #[.agg #[.int .i64 what, .int .u64 a0, .int .u64 a1, .int .u64 a2, .int .u64 a3, .int .u8 xv, .slice bA bn bc], .int .u64 (base : Int), .int .u64 (n : Int)] w fun e w' => e = .returned (.int .u64 (x : Int)) ∧ Below w.heap.size w w' := by
  by_cases h : what < 0
  · have e : x = base + n % 3000 := by rw [← hx]; simp [atN, h]
    have E := Lib.hid e
    have k1 : n % 3000 < 3000 := Nat.mod_lt _ (by omega)
    clear hx e
    go_enter Try.func32, Try.ntmps32
    go_wp2
    go_ret
    exact ⟨ret_u (by rw [E.out]; omega), (Below.refl _ _).alloc (Nat.le_refl _) _⟩
  · have e : x = n := by rw [← hx]; simp [atN, h]
    subst e
    clear hx
    go_enter Try.func32, Try.ntmps32
    go_wp2
    go_ret
    exact ⟨rfl, (Below.refl _ _).alloc (Nat.le_refl _) _⟩

set_option maxRecDepth 100000 in
set_option maxHeartbeats 400000 in
theorem may_yes (w : World) (base cap : Nat) (h1 : base % 16 = 0) (h2 : base ≤ 4611686018427387904) (h3 : 1024 ≤ cap) (h4 : cap ≤ 16384) :
    Calls Try.prog 8 #[.int .u64 (base : Int), .int .i64 (cap : Int)] w fun e w' => e = .returned (.bool true) ∧ w = w' := by
  have s1 : ((base : Int) % 16 == 0) = true := by rw [beq_iff_eq]; omega
  have s2 : decide ((base : Int) ≤ 4611686018427387904) = true := decide_eq_true (by omega)
  have s3 : decide ((1024 : Int) ≤ (cap : Int)) = true := decide_eq_true (by omega)
  have s4 : decide ((cap : Int) ≤ 16384) = true := decide_eq_true (by omega)
  go_enter Try.func8, Try.ntmps8
  go_wp2
  go_ret
  exact ⟨rfl, rfl⟩

set_option maxRecDepth 100000 in
set_option maxHeartbeats 400000 in
theorem may_no (w : World) (base : Nat) (cap : Int) (h : base % 16 ≠ 0 ∨ 4611686018427387904 < base ∨ cap < 1024 ∨ 16384 < cap) :
    Calls Try.prog 8 #[.int .u64 (base : Int), .int .i64 cap] w fun e w' => e = .returned (.bool false) ∧ w = w' := by
  by_cases h1 : base % 16 = 0
  · have s1 : ((base : Int) % 16 == 0) = true := by rw [beq_iff_eq]; omega
    by_cases h2 : 4611686018427387904 < base
    · have s2 : decide ((base : Int) ≤ 4611686018427387904) = false := decide_eq_false (by omega)
      clear h h1
      go_enter Try.func8, Try.ntmps8
      go_wp2
      go_ret
      exact ⟨rfl, rfl⟩
    · have s2 : decide ((base : Int) ≤ 4611686018427387904) = true := decide_eq_true (by omega)
      by_cases h3 : cap < 1024
      · have s3 : decide ((1024 : Int) ≤ cap) = false := decide_eq_false (by omega)
        clear h h1
        go_enter Try.func8, Try.ntmps8
        go_wp2
        go_ret
        exact ⟨rfl, rfl⟩
      · have s3 : decide ((1024 : Int) ≤ cap) = true := decide_eq_true (by omega)
        have s4 : decide (cap ≤ 16384) = false := decide_eq_false (by omega)
        clear h h1
        go_enter Try.func8, Try.ntmps8
        go_wp2
        go_ret
        exact ⟨rfl, rfl⟩
  · have s1 : ((base : Int) % 16 == 0) = false := by rw [beq_eq_false_iff_ne]; omega
    clear h h1
    go_enter Try.func8, Try.ntmps8
    go_wp2
    go_ret
    exact ⟨rfl, rfl⟩

theorem low_div (v k q : Nat) (h : v / 256 ^ k = q) : Value.int .u64 ((q : Int) / 256) = .int .u64 ((v / 256 ^ (k + 1) : Nat) : Int) := by
  rw [Nat.pow_succ, ← Nat.div_div_eq_div_mul, h]
  simp
theorem low_row (v k q : Nat) (h : v / 256 ^ k = q) : (lowB (k + 1) v).map bv = (lowB k v).map bv ++ [.int .u8 ((q : Int) % 256)] := by
  rw [lowB_snoc, List.map_append, h]
  simp only [List.map_cons, List.map_nil, bv, toNat_ofNat_mod]
  simp

set_option maxRecDepth 100000 in
set_option maxHeartbeats 400000 in
theorem low_any (v : Nat) (w : World) (hv : v < 18446744073709551616) :
    Calls Try.prog 41 #[.int .u64 (v : Int)] w fun e w' => NewRow (lowB 8 v) w e w' := by
  obtain ⟨i0, hi, hz0, hz1, hz2⟩ := info_parts u8_info
  go_enter Try.func41, Try.ntmps41
  go_wp2
  go_loopw [0, 3, 4] (fun q x i wr => ∃ k : Nat, k ≤ 8 ∧ i = .int .i64 k ∧ q = .int .u64 ((v / 256 ^ k : Nat) : Int) ∧ wr.ownsRow w.heap.size 5 1 x k ((lowB k v).map bv) ∧ Below w.heap.size w wr) (fun _ _ i _ => 8 - (intOf i).toNat)
  case atStart => exact ⟨0, Nat.zero_le _, rfl, by simp, World.ownsRow_nil _ _ _ _, Below.refl _ _⟩
  case round =>
    obtain ⟨k, hk, rfl, rfl, hown, hb⟩ := hrel
    by_cases hlt : k < 8
    · have hq : v / 256 ^ k < 18446744073709551616 := Nat.lt_of_le_of_lt (Nat.div_le_self _ _) hv
      generalize hqq : v / 256 ^ k = q at *
      have HQ := Lib.hid hqq
      clear hqq
      have hm : 0 ≤ (q : Int) % 256 ∧ (q : Int) % 256 ≤ 255 := by omega
      obtain ⟨hm0, hm1⟩ := hm
      go_wp2_with (first
        | (at_builtin; refine wpList_append_own _ rfl _ _ 29 rfl w.heap.size 5 i0 (.int .u8 0) 1 1 Try.underlying29 hi hz0 hz1 hz2 rfl (by decide) _ _ _ rfl (hown.alloc _) ⟨wr.heap.size, 0, none⟩ 1 1 [.int .u8 ((q : Int) % 256)] rfl rfl ?c1 ?c2 ?c3 ?c4 ?c5 ?_))
      case c1 =>
        intro j u hj
        match j, hj with
        | 0, hj => simp at hj; subst hj; simp [Addr.add]
      case c2 => intro u hu; simp at hu; subst hu; rfl
      case c3 => unfold maxLen; omega
      case c4 => omega
      case c5 => have := hb.size; simp; omega
      intro x' w1 hown' hgrow _
      have hb1 : Below w.heap.size w w1 := (hb.alloc hb.size _).grown hgrow (by have := hb.size; simp; omega) (fun j hj => (hown.lt j hj).1)
      have Hown := Lib.hid hown'
      clear hown' hgrow
      go_wp2
      go_roundw
      case rel => exact ⟨k + 1, by omega, by go_num, low_div v k q HQ.out, by rw [low_row v k q HQ.out]; exact Hown.out, hb1⟩
      case measure => simp [intOf]; omega
    · go_wp2
      go_ret
      obtain rfl : k = 8 := by omega
      obtain ⟨e1, A', c', rfl⟩ := own_slice hown
      rw [e1] at hown
      exact ⟨A', c', rfl, hown, hb⟩
end Go.Proofs.Ytbalmacabojbpaa
