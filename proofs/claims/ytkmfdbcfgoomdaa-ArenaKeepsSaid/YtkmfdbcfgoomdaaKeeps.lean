/- The walk of the law ArenaKeeps: it returns true and writes nothing that was there. -/
import Derived.Test.YtkmfdbcfgoomdaaUp3
namespace Go.Proofs.Ytkmfdbcfgoomdaa
open Go.RowKit

set_option maxRecDepth 100000 in
set_option maxHeartbeats 2000000 in
theorem keeps_long (A0 A3 : Option Addr) (n0 c0 n3 c3 b x y : Nat) (w : World) (hb : b < 18446744073709551616) (hl : 1024 < n0 ∨ 2000 < n3) (h0 : n0 ≤ 9223372036854775807) (h3 : n3 ≤ 9223372036854775807) :
    Calls Try.prog 4 #[.int .u64 (b : Int), .slice A0 n0 c0, .int .u64 (x : Int), .slice A3 n3 c3, .int .u64 (y : Int)] w fun e w' => e = .returned (.bool true) ∧ Below w.heap.size w w' := by
  have HB := Lib.hid (fun W => lawbase_any W b hb)
  by_cases h1 : 1024 < n0
  · go_enter Try.func4, Try.ntmps4
    go_wp2_with fail
    refine (up3_any _).mono ?_
    rintro e w1 ⟨rfl, hb1⟩
    go_wp2_with fail
    refine (HB.out _).mono ?_
    rintro e w2 ⟨rfl, rfl⟩
    go_wp2
    go_ret
    exact ⟨rfl, hb1⟩
  · have h2 : 2000 < n3 := by omega
    go_enter Try.func4, Try.ntmps4
    go_wp2_with fail
    refine (up3_any _).mono ?_
    rintro e w1 ⟨rfl, hb1⟩
    go_wp2_with fail
    refine (HB.out _).mono ?_
    rintro e w2 ⟨rfl, rfl⟩
    go_wp2
    go_ret
    exact ⟨rfl, hb1⟩

set_option maxRecDepth 100000 in
set_option maxHeartbeats 4000000 in
theorem keeps_no (A0 A3 : Option Addr) (c0 c3 b base x y : Nat) (bs cs : List UInt8) (w : World) (hb : b < 18446744073709551616) (hbase : b % 288230376151711744 * 16 = base) (hr : Rd w w.heap.size A0 bs.length bs) (h0 : bs.length ≤ 1024) (h3 : cs.length ≤ 2000) (hx : x < 18446744073709551616)
    (hno : base ≤ x → bs.length < x - base + cs.length) :
    Calls Try.prog 4 #[.int .u64 (b : Int), .slice A0 bs.length c0, .int .u64 (x : Int), .slice A3 cs.length c3, .int .u64 (y : Int)] w fun e w' => e = .returned (.bool true) ∧ Below w.heap.size w w' := by
  have HB := fun W => lawbase_any W b hb
  rw [hbase] at HB
  have HB := Lib.hid HB
  have m1 : base % 16 = 0 := by omega
  have m2 : base ≤ 4611686018427387904 := by omega
  clear hbase hb
  have M1 := Lib.hid m1
  clear m1
  have HNO := Lib.hid hno
  clear hno
  go_enter Try.func4, Try.ntmps4
  go_wp2_with fail
  refine (up3_any _).mono ?_
  rintro e w1 ⟨rfl, hb1⟩
  have r1 := (hr.below hb1).more hb1.size
  go_wp2_with fail
  refine (HB.out _).mono ?_
  rintro e w2 ⟨rfl, rfl⟩
  go_wp2_with fail
  refine (arena_any w1 base 1024 A0 c0 bs r1 M1.out m2 (by omega) (by omega) h0).mono ?_
  rintro e w2 ⟨g, A, c, rfl, ha, hb2, hg, hA⟩
  have HS := Lib.hid (store_no ha (by omega) x cs.length A3 c3 hx (by omega) HNO.out)
  have HY := Lib.hid (bytes_any ha (by omega) m2)
  have HB2 := Lib.hid hb2
  have HB1 := Lib.hid hb1
  have R1 := Lib.hid r1
  have HR := Lib.hid hr
  clear ha hb2 hg hA hb1 r1 hr HB
  go_wp2_with fail
  refine HS.out.mono ?_
  rintro e w3 ⟨rfl, rfl⟩
  go_wp2_with fail
  refine HY.out.mono ?_
  rintro e w3 ⟨A', c', rfl, ho, hb3⟩
  have rn := Rd.own ho
  have ra := R1.out.below (HB2.out.trans (hb3.mono HB2.out.size))
  have q1 := fun c => conv_rd (c := c) rn
  have q2 := fun c => conv_rd (c := c) ra
  have HF : Hid (Below w.heap.size w w3) := HB1.out.trans ((HB2.out.trans (hb3.mono HB2.out.size)).mono HB1.out.size)
  have hno := HNO.out
  clear ho hb3 rn ra HB1 HB2 R1 HR HS HY HNO
  by_cases hxb : base ≤ x
  · have hno := hno hxb
    by_cases hd : bs.length < x - base
    · go_wp2
      go_ret
      exact ⟨rfl, HF.out⟩
    · have s3 : decide ((cs.length : Int) ≤ (bs.length : Int) - ((x : Int) - (base : Int))) = false := decide_eq_false (by omega)
      go_wp2
      go_ret
      exact ⟨rfl, HF.out⟩
  · clear hno
    go_wp2
    go_ret
    exact ⟨rfl, HF.out⟩
theorem keep_drewN {B : Nat} {w w' : World} (h : Below B w w') (k : Nat) : Below B w (w'.drewN k) := ⟨h.os, h.tape, h.output, h.size, h.block⟩

section
variable {w : World} {B n c : Nat} {A : Option Addr} {bs : List UInt8}
theorem conv_sub (h : Rd w B A n bs) (k m : Nat) (hm : k + m ≤ n) (cap : Nat) (hc : n ≤ cap) :
    (convert 29 9 (.slice (if cap = k then A else A.map (·.add k)) m c)).run Try.prog w = .ok (.string (strB ((bs.drop k).take m))) w := by
  rcases Nat.eq_zero_or_pos m with h0 | h0
  · subst h0
    rw [List.take_zero]
    exact conv_rd (B := 0) Rd.nil_
  · obtain ⟨b, off, rfl, _, _⟩ := h.2 (by omega)
    rw [if_neg (by omega)]
    have e : (⟨b, off, none⟩ : Addr).add k = ⟨b, off + k, none⟩ := by unfold Addr.add; split <;> simp_all
    rw [Option.map_some, e]
    exact conv_rd (h.sub k m hm)
theorem conv_head (h : Rd w B A n bs) (m : Nat) (hm : m ≤ n) :
    (convert 29 9 (.slice A m c)).run Try.prog w = .ok (.string (strB (bs.take m))) w := by
  rcases Nat.eq_zero_or_pos m with h0 | h0
  · subst h0
    rw [List.take_zero]
    exact conv_rd (B := 0) Rd.nil_
  · obtain ⟨b, off, rfl, _, _⟩ := h.2 (by omega)
    have r := h.sub 0 m (by omega)
    rw [List.drop_zero] at r
    exact conv_rd r
end

theorem copy_any {w : World} {g base cap c : Nat} {A : Option Addr} {bs : List UInt8} (h : Ar w 52 g base cap A c bs) (hl : bs.length ≤ 1000000) (x y n d f : Nat) (hx : x < 18446744073709551616) (hy : y < 18446744073709551616) (h1 : base ≤ x) (hd : x - base = d) (h2 : d + n ≤ bs.length) (h3 : base ≤ y) (hf : y - base = f) (h4 : f + n ≤ bs.length) :
    Calls Try.prog 16 #[.pointer (some ⟨g, 0, none⟩), .int .u64 (x : Int), .int .u64 (y : Int), .int .u64 (n : Int)] w fun e w' => e = .returned .nilIface ∧ Became 52 g base cap A (lay bs d ((bs.drop f).take n)) w w' := by
  rcases Nat.eq_zero_or_pos n with h0 | h0
  · subst h0
    rw [List.take_zero, lay_nil]
    exact copy_zero h hl x y d f hx hy h1 hd h2 h3 hf h4
  · exact copy_ok h hl x y n d f hx hy h1 hd h2 h3 hf h4 h0

theorem lay_take (bs cs : List UInt8) (d : Nat) (h : d + cs.length ≤ bs.length) : ((lay bs d cs).drop d).take cs.length = cs := by
  have e : (bs.take d).length = d := by simp; omega
  unfold lay
  rw [List.drop_append, e, List.drop_eq_nil_of_le (by omega), List.nil_append, Nat.sub_self, List.drop_zero]
  exact List.take_left
theorem lay_head (bs cs : List UInt8) (d : Nat) (h : d + cs.length ≤ bs.length) : (lay bs d cs).take d = bs.take d := by
  have e : (bs.take d).length = d := by simp; omega
  unfold lay
  rw [List.take_append_of_le_length (by omega), List.take_of_length_le (by omega)]
theorem lay_tail (bs cs : List UInt8) (d : Nat) (h : d + cs.length ≤ bs.length) : (lay bs d cs).drop (d + cs.length) = bs.drop (d + cs.length) := by
  have e : (bs.take d).length = d := by simp; omega
  unfold lay
  rw [← List.append_assoc, List.drop_append, List.drop_eq_nil_of_le (by simp; omega), List.nil_append]
  have e2 : d + cs.length - (bs.take d ++ cs).length = 0 := by simp; omega
  rw [e2, List.drop_zero]

set_option maxRecDepth 100000 in
set_option maxHeartbeats 4000000 in
theorem keeps_yes (A0 A3 : Option Addr) (c0 c3 b base x y d : Nat) (bs cs : List UInt8) (w : World) (hb : b < 18446744073709551616) (hbase : b % 288230376151711744 * 16 = base) (hr : Rd w w.heap.size A0 bs.length bs) (hr3 : Rd w w.heap.size A3 cs.length cs) (h0 : bs.length ≤ 1024) (h3 : cs.length ≤ 2000) (hc0 : bs.length ≤ c0) (hx : x < 18446744073709551616) (hy : y < 18446744073709551616)
    (h1 : base ≤ x) (hd : x - base = d) (h2 : d + cs.length ≤ bs.length) :
    Calls Try.prog 4 #[.int .u64 (b : Int), .slice A0 bs.length c0, .int .u64 (x : Int), .slice A3 cs.length c3, .int .u64 (y : Int)] w fun e w' => e = .returned (.bool true) ∧ Below w.heap.size w w' := by
  have HB := fun W => lawbase_any W b hb
  rw [hbase] at HB
  have HB := Lib.hid HB
  have m1 : base % 16 = 0 := by omega
  have m2 : base ≤ 4611686018427387904 := by omega
  clear hbase hb
  have M1 := Lib.hid m1
  clear m1
  have HD := Lib.hid hd
  have hd1 : (x : Int) - (base : Int) = (d : Int) := by omega
  have HD1 := Lib.hid hd1
  clear hd hd1
  go_enter Try.func4, Try.ntmps4
  go_wp2_with fail
  refine (up3_any _).mono ?_
  rintro e w1 ⟨rfl, hb1⟩
  have r1 := (hr.below hb1).more hb1.size
  have r3 := (hr3.below hb1).more hb1.size
  go_wp2_with fail
  refine (HB.out _).mono ?_
  rintro e w2 ⟨rfl, rfl⟩
  go_wp2_with fail
  refine (arena_any w1 base 1024 A0 c0 bs r1 M1.out m2 (by omega) (by omega) h0).mono ?_
  rintro e w2 ⟨g, A, c, rfl, ha, hb2, hg, hA⟩
  have HS := Lib.hid (store_ok ha (by omega) x d A3 c3 cs _ (r3.below hb2) hx h1 HD.out h2)
  have HB2 := Lib.hid hb2
  have HB1 := Lib.hid hb1
  have R1 := Lib.hid r1
  have R3 := Lib.hid r3
  have HG := Lib.hid hg
  have HA := Lib.hid hA
  clear ha hb2 hg hA hb1 r1 r3 hr hr3 HB
  go_wp2_with fail
  refine HS.out.mono ?_
  rintro e w3 ⟨rfl, hbe⟩
  obtain ⟨A3', c3', ha3, hb3, hA3⟩ := hbe.below (B := w1.heap.size) HG.out HA.out HB2.out.size
  have hlen := lay_length bs d cs h2
  have HY := Lib.hid (bytes_any ha3 (by omega) m2)
  have HB3 := Lib.hid (HB2.out.trans hb3)
  have HAR := Lib.hid ha3
  have HA3 := Lib.hid hA3
  have L1 := lay_take bs cs d h2
  have L2 := lay_head bs cs d h2
  have L3 := lay_tail bs cs d h2
  obtain ⟨ls, hls⟩ : ∃ ls, lay bs d cs = ls := ⟨_, rfl⟩
  rw [hls] at HY HAR L1 L2 L3 hlen
  have HL := Lib.hid hlen
  have HL1 := Lib.hid L1
  have HL2 := Lib.hid L2
  have HL3 := Lib.hid L3
  clear hbe ha3 hb3 hA3 hlen L1 L2 L3 hls HB2 HS HA
  go_wp2_with fail
  refine HY.out.mono ?_
  rintro e w4 ⟨A', c', rfl, ho, hb4⟩
  have rn := Rd.own ho
  have hc' : ls.length ≤ c' := by
    obtain ⟨_, _, e, h, _⟩ := own_any ho
    injection e with _ _ e3
    subst e3
    exact h
  rw [HL.out] at rn hc' ⊢
  have ra := R1.out.below (HB3.out.trans (hb4.mono HB3.out.size))
  have rb := R3.out.below (HB3.out.trans (hb4.mono HB3.out.size))
  have HAR4 := Lib.hid (HAR.out.below hb4)
  have HB4 := Lib.hid (HB3.out.trans (hb4.mono HB3.out.size))
  clear HAR ho hb4 HY R1 R3
  have RN := Lib.hid rn
  have RA := Lib.hid ra
  have RB := Lib.hid rb
  clear rn ra rb
  have hd1 := HD1.out
  have s3 : decide ((cs.length : Int) ≤ (bs.length : Int) - (d : Int)) = true := decide_eq_true (by omega)
  have s4 : decide ((d : Int) ≤ (bs.length : Int)) = true := decide_eq_true (by omega)
  go_wp2_with fail
  clear s3 s4 hd1
  have ca := fun k c => conv_sub (c := c) (RN.out.drewN k) d cs.length (by omega) c' hc'
  have cb := fun k c => conv_rd (c := c) (RB.out.drewN k)
  have cc := fun k c => conv_head (c := c) (RN.out.drewN k) d (by omega)
  have cd := fun k c => conv_head (c := c) (RA.out.drewN k) d (by omega)
  have ce := fun k c => conv_sub (c := c) (RN.out.drewN k) (d + cs.length) (bs.length - (d + cs.length)) (by omega) c' hc'
  have cf := fun k c => conv_sub (c := c) (RA.out.drewN k) (d + cs.length) (bs.length - (d + cs.length)) (by omega) c0 hc0
  rw [HL1.out] at ca
  rw [HL2.out] at cc
  rw [HL3.out, List.take_of_length_le (by simp)] at ce
  rw [List.take_of_length_le (by simp)] at cf
  have e1 : IntKind.i64.wrap ((d : Int) + (cs.length : Int)) = (d : Int) + (cs.length : Int) := IntWalk.i64_in _ (by omega)
  have k1 : 0 ≤ (d : Int) + (cs.length : Int) := by omega
  have k2 : (d : Int) + (cs.length : Int) ≤ (c' : Int) := by omega
  have k3 : ((d : Int) + (cs.length : Int)).toNat = d + cs.length := by omega
  have k4 : (d : Int) ≤ (c' : Int) := by omega
  have k5 : (d : Int) ≤ (c0 : Int) := by omega
  have k6 : (d : Int) + (cs.length : Int) ≤ (bs.length : Int) := by omega
  have k7 : d ≤ c' := by omega
  have k8 : d ≤ c0 := by omega
  clear HL2 HL3 RN RA
  rcases A' with _ | ad'
  all_goals rcases A0 with _ | ad0
  all_goals simp only [Option.map_none, Option.map_some, ite_self] at ca cc cd ce cf
  all_goals
    go_quiet (fail)
    clear ca cb cc cd ce cf e1 k1 k2 k3 k4 k5 k6 k7 k8
    have HAR5 := Lib.hid (HAR4.out.drewN nq)
    have RB5 := Lib.hid (RB.out.drewN nq)
    have HB5 : Hid (Below w1.heap.size w1 (w4.drewN nq)) := ⟨HB4.out.os, HB4.out.tape, HB4.out.output, HB4.out.size, HB4.out.block⟩
    clear HAR4 RB HB4
    generalize w4.drewN nq = w5 at HAR5 RB5 HB5 ⊢
    try generalize (if c' = d then some ad' else some (ad'.add d)) = X1
    try generalize (if c' = d + cs.length then some ad' else some (ad'.add (d + cs.length))) = X2
    try generalize (if c0 = d + cs.length then some ad0 else some (ad0.add (d + cs.length))) = X3
    by_cases hok : base ≤ y ∧ y - base + cs.length ≤ bs.length
    · obtain ⟨h4, h5⟩ := hok
      have HC := Lib.hid (copy_any HAR5.out (by rw [HL.out]; omega) y x cs.length (y - base) d hy hx h4 rfl (by rw [HL.out]; exact h5) h1 HD.out (by rw [HL.out]; exact h2))
      go_wp2_with fail
      refine HC.out.mono ?_
      rintro e w6 ⟨rfl, hbe⟩
      rw [HL1.out] at hbe
      obtain ⟨A6, c6, ha6, hb6, hA6⟩ := hbe.below (B := w1.heap.size) HG.out HA3.out HB5.out.size
      have hlen6 : (lay ls (y - base) cs).length = bs.length := by rw [lay_length ls _ cs (by rw [HL.out]; exact h5), HL.out]
      have hk := load_ok ha6 (by rw [hlen6]; omega) y cs.length (y - base) hy h4 rfl (by rw [hlen6]; exact h5)
      rw [lay_take ls cs _ (by rw [HL.out]; exact h5)] at hk
      have HK := Lib.hid hk
      have HB6 := Lib.hid (HB5.out.trans hb6)
      have RB6 := Lib.hid (RB5.out.below hb6)
      clear hbe ha6 hb6 hA6 hlen6 hk HC
      go_wp2_with fail
      refine HK.out.mono ?_
      rintro e w7 ⟨A7, c7, rfl, ho7, hb7⟩
      have cg := fun k c => conv_rd (c := c) ((Rd.own ho7).drewN k)
      have ch := fun k c => conv_rd (c := c) ((RB6.out.below (hb7.mono HB6.out.size)).drewN k)
      have HB7 := Lib.hid (HB6.out.trans (hb7.mono HB6.out.size))
      clear ho7 hb7 HK
      go_wp2_with fail
      go_quiet (fail)
      clear cg ch
      go_wp2
      go_ret
      exact ⟨rfl, HB1.out.trans (keep_drewN (HB7.out.mono HB1.out.size) _)⟩
    · have hno : base ≤ y → ls.length < y - base + cs.length := fun h4 => by rw [HL.out]; omega
      have HC := Lib.hid (copy_no1 HAR5.out (by rw [HL.out]; omega) y x cs.length hy hno)
      have HK := Lib.hid (load_no HAR5.out (by rw [HL.out]; omega) y cs.length hy hno)
      clear hno hok
      go_wp2_with fail
      refine HC.out.mono ?_
      rintro e w6 ⟨rfl, rfl⟩
      go_wp2_with fail
      refine HK.out.mono ?_
      rintro e w6 ⟨rfl, rfl⟩
      go_wp2_with fail
      go_quiet (fail)
      go_wp2
      go_ret
      exact ⟨rfl, HB1.out.trans (keep_drewN (HB5.out.mono HB1.out.size) _)⟩
end Go.Proofs.Ytkmfdbcfgoomdaa
