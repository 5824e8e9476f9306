/- Texts of mine, joined. -/
import Derived.Test.YtnicenfdlfffpaaGreatDoorM2
set_option maxRecDepth 100000
set_option maxHeartbeats 4000000
namespace Go.Proofs.YtnicenfdlfffpaaGreatDoor
open Go.RowKit
def adr (base : Nat) (o : Int) : Nat := (((base : Int) + o) % 18446744073709551616).toNat
theorem anQ (base : Nat) (o : Int) : adr base o < 18446744073709551616 := by unfold adr; omega
theorem agw (base : Nat) (hb : base <= 4611686018427387904) (o : Nat) (ho : (o : Int) <= 9223372036854775807) : adr base (o : Int) = base + o := by unfold adr; omega
theorem ak1 (base : Nat) (hb : base <= 4611686018427387904) (o : Int) (ho : -9223372036854775900 <= o /\ o <= 9223372036854775807) (n k : Nat) (hn : n + k <= 1000000) (hk : 1 <= k) (h : o < 0 \/ (n : Int) < o + k) : base <= adr base o -> n < adr base o - base + k := by unfold adr; omega
def wdV (o : Option Nat) : Value := match o with
 | some v => .tuple #[.int .u64 (v : Int), .nilIface]
 | none => .tuple #[.int .u64 0, .iface 67 (.int .i64 2)]
def plc (o : Int) : Bool := decide (184 <= o) && (o % 16 == 8)
theorem ae5 (o : Int) : plc o = true ↔ 184 <= o /\ o % 16 = 8 := by simp [plc]
section
variable {w : World} {g base cap c : Nat} {A : Option Addr} {bs : List UInt8}
theorem abZ (h : Ar w 79 g base cap A c bs) (hb : base <= 4611686018427387904) (hl : bs.length <= 16384) (o : Int) (ho : -9223372036854775900 <= o /\ o <= 9223372036854775807) (x : Option Nat) (hx : word? bs o = x) :
 Calls Tryz.prog 102 #[.pointer (some ⟨g, 0, none⟩), .int .u64 (adr base o : Int)] w fun e w' => e = .returned (wdV x) /\ w = w' := by
 subst hx; by_cases h1 : 0 <= o /\ o + 8 <= bs.length
 · obtain ⟨p, rfl⟩ : ∃ p : Nat, o = (p : Int) := ⟨o.toNat, by omega⟩; have e : word? bs (p : Int) = some (aae bs p) := by unfold word?; rw [if_pos (by omega)]; rfl
   rw [e, agw base hb p (by omega)]; exact aog h (by omega) (base + p) p (by omega) (by omega) (by omega) (by omega)
 · have e : word? bs o = none := by unfold word?; rw [if_neg h1]
   rw [e]; exact aoh h (by omega) (adr base o) (anQ _ _) (ak1 base hb o ho bs.length 8 (by omega) (by omega) (by omega))
theorem aaM (h : Ar w 79 g base cap A c bs) (o : Int) :
 Calls Tryz.prog 103 #[.pointer (some ⟨g, 0, none⟩), .int .i64 o] w fun e w' => e = .returned (.int .u64 (adr base o : Int)) /\ w = w' := by
 have HB := hE0 (acu h); go_enter Tryz.func103, Tryz.ntmps103
 go_wp2_with fail
 refine HB.out.mono ?_; rintro e w1 ⟨rfl, rfl⟩; go_wp2
 go_ret
 exact ⟨amf (by simp only [IntKind.wrap_u64]; unfold adr; omega), rfl⟩
theorem aby (w : World) (o : Int) (ho : -9223372036854775808 <= o /\ o <= 9223372036854775807) (b : Bool) (hb : plc o = b) :
 Calls Tryz.prog 101 #[.int .i64 o] w fun e w' => e = .returned (.bool b) /\ w = w' := by
 by_cases h1 : 184 <= o
 · have e : ((o - 184) % 16 == 0) = b := by
    rw [<- hb]; unfold plc; rw [decide_eq_true h1, Bool.true_and, Bool.eq_iff_iff, beq_iff_eq, beq_iff_eq]; omega
   have HE := hE0 e; clear hb e; go_enter Tryz.func101, Tryz.ntmps101
   go_wp2
   go_ret
   exact ⟨amp HE.out, rfl⟩
 · obtain rfl : false = b := by rw [<- hb]; simp [plc, h1]
   clear hb; go_enter Tryz.func101, Tryz.ntmps101
   go_wp2
   go_ret
   exact ⟨rfl, rfl⟩
end
section
variable {w : World} {g base cap c : Nat} {A : Option Addr} {bs : List UInt8}
theorem aqa (h : Ar w 79 g base cap A c bs) (o : Int) (ho : -9223372036854775808 <= o /\ o <= 9223372036854775807) (hc : plc o = false) :
 Calls Tryz.prog 72 #[.pointer (some ⟨g, 0, none⟩), .int .i64 o] w fun e w' => e = .returned (.tuple #[bkV none, aaz false 3]) /\ Below w.heap.size w w' := by
 obtain ⟨w1, hw1⟩ := nmE (w.alloc (.cells #[.int .i64 0, .int .i64 0, .bool false] 81)); have hb1 := abE hw1; have hn1 := anE hw1; have h1 := h.below hb1; have HC := hE0 (aby w1 o ho false hc); have HW1 := hE0 hw1; have HB1 := hE0 hb1; have HN1 := hE0 hn1; clear hc hw1 hb1 hn1 h1 h; go_enter Tryz.func72, Tryz.ntmps72
 go_wp2_with fail
 rw [HW1.out]
 with_reducible refine HC.out.mono ?_
 rintro e w2 ⟨rfl, rfl⟩; obtain ⟨⟨c0, c1, c2⟩, f0, f1, f2⟩ := aad HN1.out; go_wp2
 (try simp only [Exit.inBlock, Exit.then])
 refine abM (x := aaz false 3) Tryz.results72 ?_ ?_ ?_ (aaC HN1.out _ _ _) ?_
 · rfl
 · rfl
 · rfl
 · exact ⟨rfl, ((HB1.out.setCell (Nat.le_refl _) _).setCell (Nat.le_refl _) _).setCell (Nat.le_refl _) _⟩
theorem aqb (h : Ar w 79 g base cap A c bs) (hb : base <= 4611686018427387904) (hl : bs.length <= 16384) (o : Int) (ho : -9223372036854775808 <= o /\ o <= 9223372036854775807) (hc : plc o = true) (hv : word? bs o = none) :
 Calls Tryz.prog 72 #[.pointer (some ⟨g, 0, none⟩), .int .i64 o] w fun e w' => e = .returned (.tuple #[bkV none, aaz false 3]) /\ Below w.heap.size w w' := by
 obtain ⟨w1, hw1⟩ := nmE (w.alloc (.cells #[.int .i64 0, .int .i64 0, .bool false] 81)); have hb1 := abE hw1; have hn1 := anE hw1; have h1 := h.below hb1; have HC := hE0 (aby w1 o ho true hc); have HA := hE0 (aaM h1 o); have hwd := abZ h1 hb hl o (by omega) _ hv; dsimp only [wdV] at hwd; have HW := hE0 hwd; have HW1 := hE0 hw1; have HB1 := hE0 hb1; have HN1 := hE0 hn1; clear hc hv hwd hw1 hb1 hn1 h1 h; go_enter Tryz.func72, Tryz.ntmps72
 go_wp2_with fail
 rw [HW1.out]
 with_reducible refine HC.out.mono ?_
 rintro e w2 ⟨rfl, rfl⟩; go_wp2_with fail
 with_reducible refine HA.out.mono ?_
 rintro e w2 ⟨rfl, rfl⟩; go_wp2_with fail
 with_reducible refine HW.out.mono ?_
 rintro e w2 ⟨rfl, rfl⟩; obtain ⟨⟨c0, c1, c2⟩, f0, f1, f2⟩ := aad HN1.out; go_wp2
 (try simp only [Exit.inBlock, Exit.then])
 refine abM (x := aaz false 3) Tryz.results72 ?_ ?_ ?_ (aaC HN1.out _ _ _) ?_
 · rfl
 · rfl
 · rfl
 · exact ⟨rfl, ((HB1.out.setCell (Nat.le_refl _) _).setCell (Nat.le_refl _) _).setCell (Nat.le_refl _) _⟩
theorem aqc (h : Ar w 79 g base cap A c bs) (hb : base <= 4611686018427387904) (hl : bs.length <= 16384) (o : Int) (ho : -9223372036854775808 <= o /\ o <= 9223372036854775807) (hc : plc o = true) (v : Nat) (hvl : v < 18446744073709551616) (hv : word? bs o = some v) (hu : ad3 v = none) :
 Calls Tryz.prog 72 #[.pointer (some ⟨g, 0, none⟩), .int .i64 o] w fun e w' => e = .returned (.tuple #[bkV none, aaz false 3]) /\ Below w.heap.size w w' := by
 obtain ⟨w1, hw1⟩ := nmE (w.alloc (.cells #[.int .i64 0, .int .i64 0, .bool false] 81)); have hb1 := abE hw1; have hn1 := anE hw1; have h1 := h.below hb1; have HC := hE0 (aby w1 o ho true hc); have HA := hE0 (aaM h1 o); have hwd := abZ h1 hb hl o (by omega) _ hv; dsimp only [wdV] at hwd; have HW := hE0 hwd; have hup := abK w1 v hvl; rw [hu] at hup; dsimp only [amq] at hup; have HU := hE0 hup; have HW1 := hE0 hw1; have HB1 := hE0 hb1; have HN1 := hE0 hn1; clear hc hv hwd hu hup hw1 hb1 hn1 h1 h; go_enter Tryz.func72, Tryz.ntmps72
 go_wp2_with fail
 rw [HW1.out]
 with_reducible refine HC.out.mono ?_
 rintro e w2 ⟨rfl, rfl⟩; go_wp2_with fail
 with_reducible refine HA.out.mono ?_
 rintro e w2 ⟨rfl, rfl⟩; go_wp2_with fail
 with_reducible refine HW.out.mono ?_
 rintro e w2 ⟨rfl, rfl⟩; go_wp2_with fail
 with_reducible refine HU.out.mono ?_
 rintro e w2 ⟨rfl, rfl⟩; obtain ⟨⟨c0, c1, c2⟩, f0, f1, f2⟩ := aad HN1.out; go_wp2
 (try simp only [Exit.inBlock, Exit.then])
 refine abM (x := aaz false 3) Tryz.results72 ?_ ?_ ?_ (aaC HN1.out _ _ _) ?_
 · rfl
 · rfl
 · rfl
 · exact ⟨rfl, ((HB1.out.setCell (Nat.le_refl _) _).setCell (Nat.le_refl _) _).setCell (Nat.le_refl _) _⟩
theorem aqd (h : Ar w 79 g base cap A c bs) (hb : base <= 4611686018427387904) (hl : bs.length <= 16384) (o : Int) (ho : -9223372036854775808 <= o /\ o <= 9223372036854775807) (hc : plc o = true) (v : Nat) (hvl : v < 18446744073709551616) (hv : word? bs o = some v) (s : Nat) (u : Bool) (hu : ad3 v = some (s, u)) (hs : 32 <= s /\ s <= 16384) (hob : 0 <= o /\ o <= 16384) (hv2 : word? bs (o + (s : Int) - 8) = none) :
 Calls Tryz.prog 72 #[.pointer (some ⟨g, 0, none⟩), .int .i64 o] w fun e w' => e = .returned (.tuple #[bkV none, aaz false 3]) /\ Below w.heap.size w w' := by
 obtain ⟨w1, hw1⟩ := nmE (w.alloc (.cells #[.int .i64 0, .int .i64 0, .bool false] 81)); have hb1 := abE hw1; have hn1 := anE hw1; have h1 := h.below hb1; have HC := hE0 (aby w1 o ho true hc); have HA := hE0 (aaM h1 o); have hwd := abZ h1 hb hl o (by omega) _ hv; dsimp only [wdV] at hwd; have HW := hE0 hwd; have hup := abK w1 v hvl; rw [hu] at hup; dsimp only [amq] at hup; have HU := hE0 hup; have HA2 := hE0 (aaM h1 (o + (s : Int) - 8)); have hwd2 := abZ h1 hb hl (o + (s : Int) - 8) (by omega) _ hv2; dsimp only [wdV] at hwd2; have HW2 := hE0 hwd2; have HW1 := hE0 hw1; have HB1 := hE0 hb1; have HN1 := hE0 hn1; clear hc hv hwd hu hup hv2 hwd2 hw1 hb1 hn1 h1 h; go_enter Tryz.func72, Tryz.ntmps72
 go_wp2_with fail
 rw [HW1.out]
 with_reducible refine HC.out.mono ?_
 rintro e w2 ⟨rfl, rfl⟩; go_wp2_with fail
 with_reducible refine HA.out.mono ?_
 rintro e w2 ⟨rfl, rfl⟩; go_wp2_with fail
 with_reducible refine HW.out.mono ?_
 rintro e w2 ⟨rfl, rfl⟩; go_wp2_with fail
 with_reducible refine HU.out.mono ?_
 rintro e w2 ⟨rfl, rfl⟩; go_wp2_with fail
 with_reducible refine HA2.out.mono ?_
 rintro e w2 ⟨rfl, rfl⟩; go_wp2_with fail
 with_reducible refine HW2.out.mono ?_
 rintro e w2 ⟨rfl, rfl⟩; obtain ⟨⟨c0, c1, c2⟩, f0, f1, f2⟩ := aad HN1.out; go_wp2
 (try simp only [Exit.inBlock, Exit.then])
 refine abM (x := aaz false 3) Tryz.results72 ?_ ?_ ?_ (aaC HN1.out _ _ _) ?_
 · rfl
 · rfl
 · rfl
 · exact ⟨rfl, ((HB1.out.setCell (Nat.le_refl _) _).setCell (Nat.le_refl _) _).setCell (Nat.le_refl _) _⟩
theorem aqe (h : Ar w 79 g base cap A c bs) (hb : base <= 4611686018427387904) (hl : bs.length <= 16384) (o : Int) (ho : -9223372036854775808 <= o /\ o <= 9223372036854775807) (hc : plc o = true) (v : Nat) (hvl : v < 18446744073709551616) (hv : word? bs o = some v) (s : Nat) (u : Bool) (hu : ad3 v = some (s, u)) (hs : 32 <= s /\ s <= 16384) (hob : 0 <= o /\ o <= 16384) (v2 : Nat) (hv2 : word? bs (o + (s : Int) - 8) = some v2) (hne : v2 ≠ v) :
 Calls Tryz.prog 72 #[.pointer (some ⟨g, 0, none⟩), .int .i64 o] w fun e w' => e = .returned (.tuple #[bkV none, aaz false 3]) /\ Below w.heap.size w w' := by
 obtain ⟨w1, hw1⟩ := nmE (w.alloc (.cells #[.int .i64 0, .int .i64 0, .bool false] 81)); have hb1 := abE hw1; have hn1 := anE hw1; have h1 := h.below hb1; have HC := hE0 (aby w1 o ho true hc); have HA := hE0 (aaM h1 o); have hwd := abZ h1 hb hl o (by omega) _ hv; dsimp only [wdV] at hwd; have HW := hE0 hwd; have hup := abK w1 v hvl; rw [hu] at hup; dsimp only [amq] at hup; have HU := hE0 hup; have HA2 := hE0 (aaM h1 (o + (s : Int) - 8)); have hwd2 := abZ h1 hb hl (o + (s : Int) - 8) (by omega) _ hv2; dsimp only [wdV] at hwd2; have HW2 := hE0 hwd2; have hq : ((v2 : Int) != (v : Int)) = true := by rw [bne_iff_ne]; omega
 have HW1 := hE0 hw1; have HB1 := hE0 hb1; have HN1 := hE0 hn1; clear hc hv hwd hu hup hv2 hwd2 hne hw1 hb1 hn1 h1 h; go_enter Tryz.func72, Tryz.ntmps72
 go_wp2_with fail
 rw [HW1.out]
 with_reducible refine HC.out.mono ?_
 rintro e w2 ⟨rfl, rfl⟩; go_wp2_with fail
 with_reducible refine HA.out.mono ?_
 rintro e w2 ⟨rfl, rfl⟩; go_wp2_with fail
 with_reducible refine HW.out.mono ?_
 rintro e w2 ⟨rfl, rfl⟩; go_wp2_with fail
 with_reducible refine HU.out.mono ?_
 rintro e w2 ⟨rfl, rfl⟩; go_wp2_with fail
 with_reducible refine HA2.out.mono ?_
 rintro e w2 ⟨rfl, rfl⟩; go_wp2_with fail
 with_reducible refine HW2.out.mono ?_
 rintro e w2 ⟨rfl, rfl⟩; obtain ⟨⟨c0, c1, c2⟩, f0, f1, f2⟩ := aad HN1.out; go_wp2
 (try simp only [Exit.inBlock, Exit.then])
 refine abM (x := aaz false 3) Tryz.results72 ?_ ?_ ?_ (aaC HN1.out _ _ _) ?_
 · rfl
 · rfl
 · rfl
 · exact ⟨rfl, ((HB1.out.setCell (Nat.le_refl _) _).setCell (Nat.le_refl _) _).setCell (Nat.le_refl _) _⟩
theorem aqf (h : Ar w 79 g base cap A c bs) (hb : base <= 4611686018427387904) (hl : bs.length <= 16384) (o : Nat) (ho : -9223372036854775808 <= (o : Int) /\ (o : Int) <= 9223372036854775807) (hc : plc (o : Int) = true) (v : Nat) (hvl : v < 18446744073709551616) (hv : word? bs (o : Int) = some v) (s : Nat) (u : Bool) (hu : ad3 v = some (s, u)) (hs : 32 <= s /\ s <= 16384) (hob : 0 <= (o : Int) /\ (o : Int) <= 16384) (hv2 : word? bs ((o : Int) + (s : Int) - 8) = some v) :
 Calls Tryz.prog 72 #[.pointer (some ⟨g, 0, none⟩), .int .i64 (o : Int)] w fun e w' => e = .returned (.tuple #[bkV (some ⟨o, s, u⟩), aaz true 3]) /\ Below w.heap.size w w' := by
 obtain ⟨w1, hw1⟩ := nmE (w.alloc (.cells #[.int .i64 0, .int .i64 0, .bool false] 81)); have hb1 := abE hw1; have hn1 := anE hw1; have h1 := h.below hb1; have HC := hE0 (aby w1 (o : Int) ho true hc); have HA := hE0 (aaM h1 (o : Int)); have hwd := abZ h1 hb hl (o : Int) (by omega) _ hv; dsimp only [wdV] at hwd; have HW := hE0 hwd; have hup := abK w1 v hvl; rw [hu] at hup; dsimp only [amq] at hup; have HU := hE0 hup; have HA2 := hE0 (aaM h1 ((o : Int) + (s : Int) - 8)); have hwd2 := abZ h1 hb hl ((o : Int) + (s : Int) - 8) (by omega) _ hv2; dsimp only [wdV] at hwd2; have HW2 := hE0 hwd2; have HW1 := hE0 hw1; have HB1 := hE0 hb1; have HN1 := hE0 hn1; clear hc hv hwd hu hup hv2 hwd2 hw1 hb1 hn1 h1 h; go_enter Tryz.func72, Tryz.ntmps72
 go_wp2_with fail
 rw [HW1.out]
 with_reducible refine HC.out.mono ?_
 rintro e w2 ⟨rfl, rfl⟩; go_wp2_with fail
 with_reducible refine HA.out.mono ?_
 rintro e w2 ⟨rfl, rfl⟩; go_wp2_with fail
 with_reducible refine HW.out.mono ?_
 rintro e w2 ⟨rfl, rfl⟩; go_wp2_with fail
 with_reducible refine HU.out.mono ?_
 rintro e w2 ⟨rfl, rfl⟩; go_wp2_with fail
 with_reducible refine HA2.out.mono ?_
 rintro e w2 ⟨rfl, rfl⟩; go_wp2_with fail
 with_reducible refine HW2.out.mono ?_
 rintro e w2 ⟨rfl, rfl⟩; obtain ⟨⟨c0, c1, c2⟩, f0, f1, f2⟩ := aad HN1.out; go_wp2
 (try simp only [Exit.inBlock, Exit.then])
 refine abM (x := aaz true 3) Tryz.results72 ?_ ?_ ?_ (aaC HN1.out _ _ _) ?_
 · rfl
 · rfl
 · rfl
 · exact ⟨rfl, ((HB1.out.setCell (Nat.le_refl _) _).setCell (Nat.le_refl _) _).setCell (Nat.le_refl _) _⟩
end
theorem ahq : aqT := by
 intro w g base cap c A bs o x h hb hl ho hx; subst hx; unfold aaL
 cases hc : plc o with
 | false =>
  have e : abt bs o = none := by
   unfold abt; rw [if_pos]; rw [Bool.eq_false_iff]; intro h2; have := (abi _ _ _).1 h2; rw [(ae5 o).2 (by omega)] at hc
   cases hc
  rw [e]; exact aqa h o ho hc
 | true =>
  have hp := (ae5 o).1 hc; obtain ⟨p, rfl⟩ : ∃ p : Nat, o = (p : Int) := ⟨o.toNat, by omega⟩; by_cases h8 : p + 8 <= bs.length
  · have hcd : aia bs.length (p : Int) 8 = true := (abi _ _ _).2 (by omega); have hv : word? bs (p : Int) = some (aae bs p) := by unfold word?; rw [if_pos (by omega)]; rfl
    cases hu : ad3 (aae bs p) with
    | none =>
     have e : abt bs (p : Int) = none := by unfold abt; rw [if_neg (by rw [hcd]; simp), Int.toNat_natCast, hu]
     rw [e]; exact aqc h hb hl (p : Int) ho hc _ (aao _ _) hv hu
    | some su =>
     obtain ⟨s, u⟩ := su; have hss := (aac _).1 (ad4 hu).1
     cases hc2 : aia bs.length (p : Int) (s : Int) with
     | false =>
      have e : abt bs (p : Int) = none := by unfold abt; rw [if_neg (by rw [hcd]; simp), Int.toNat_natCast, hu]; dsimp only; rw [if_pos hc2]
      rw [e]; refine aqd h hb hl (p : Int) ho hc _ (aao _ _) hv s u hu (by omega) (by omega) ?_; unfold word?; rw [if_neg]; intro h2; rw [(abi _ _ _).2 (by omega)] at hc2
      cases hc2
     | true =>
      have hb2 := (abi _ _ _).1 hc2; have hv2 : word? bs ((p : Int) + (s : Int) - 8) = some (aae bs (p + s - 8)) := by
       unfold word?; rw [if_pos (by omega), show ((p : Int) + (s : Int) - 8).toNat = p + s - 8 by omega]
      by_cases hw : aae bs (p + s - 8) = aae bs p
      · have e : abt bs (p : Int) = some ⟨p, s, u⟩ := by unfold abt; rw [if_neg (by rw [hcd]; simp), Int.toNat_natCast, hu]; dsimp only; rw [if_neg (by rw [hc2]; simp), if_pos hw]
        rw [e]; rw [hw] at hv2; exact aqf h hb hl p ho hc _ (aao _ _) hv s u hu (by omega) (by omega) hv2
      · have e : abt bs (p : Int) = none := by unfold abt; rw [if_neg (by rw [hcd]; simp), Int.toNat_natCast, hu]; dsimp only; rw [if_neg (by rw [hc2]; simp), if_neg hw]
        rw [e]; exact aqe h hb hl (p : Int) ho hc _ (aao _ _) hv s u hu (by omega) (by omega) _ hv2 hw
  · have e : abt bs (p : Int) = none := by
     unfold abt; rw [if_pos]; rw [Bool.eq_false_iff]; intro h2; have := (abi _ _ _).1 h2; omega
    rw [e]; exact aqb h hb hl (p : Int) ho hc (by unfold word?; rw [if_neg (by omega)])
theorem ak2 (bs : List UInt8) (o : Int) : abT bs o = (match word? bs (o - 8) with
 | none => none
 | some v => match ad3 v with
  | none => none
  | some (s, _) => match abt bs (o - (s : Int)) with
   | none => none
   | some x => if x.size = s then some x else none) := by
 by_cases h0 : o < 8 \/ (bs.length : Int) < o
 · have e : word? bs (o - 8) = none := by unfold word?; rw [if_neg (by omega)]
   rw [e]; unfold abT; rw [if_pos (by omega)]
 · obtain ⟨p, rfl⟩ : ∃ p : Nat, o = (p : Int) := ⟨o.toNat, by omega⟩; have e : word? bs ((p : Int) - 8) = some (aae bs (p - 8)) := by
    unfold word?; rw [if_pos (by omega), show ((p : Int) - 8).toNat = p - 8 by omega]
   rw [e]; dsimp only; by_cases h1 : (p : Int) < 184
   · unfold abT; rw [if_pos (by omega)]
     cases hu : ad3 (aae bs (p - 8)) with
     | none => rfl
     | some su =>
      obtain ⟨s, u⟩ := su; dsimp only
      cases hx : abt bs ((p : Int) - (s : Int)) with
      | none => rfl
      | some x =>
       have := aaJ hx; omega
   · unfold abT; rw [if_neg (by omega), Int.toNat_natCast]
     cases hu : ad3 (aae bs (p - 8)) with
     | none => rfl
     | some su =>
      obtain ⟨s, u⟩ := su; dsimp only
      cases hx : abt bs ((p : Int) - (s : Int)) with
      | none => rfl
      | some x =>
       dsimp only; obtain ⟨q1, q2, q3, q4, q5, q6, q7⟩ := aaJ hx; by_cases hs : x.size = s
       · have e2 : x.off + x.size - 8 = p - 8 := by omega
         rw [e2] at q7; rw [<- q7, hu] at q6; injection q6 with q6; injection q6 with q6 q8; rw [if_pos ⟨hs, q8.symm⟩, if_pos hs]
       · rw [if_neg (fun h => hs h.1), if_neg hs]
section
variable {w : World} {g base cap c : Nat} {A : Option Addr} {bs : List UInt8}
theorem aou (h : Ar w 79 g base cap A c bs) (hb : base <= 4611686018427387904) (hl : bs.length <= 16384) (o : Int) (ho : -9223372036854775808 <= o /\ o <= 9223372036854775807) (hv : word? bs (o - 8) = none) :
 Calls Tryz.prog 133 #[.pointer (some ⟨g, 0, none⟩), .int .i64 o] w fun e w' => e = .returned (.tuple #[bkV none, aaz false 3]) /\ Below w.heap.size w w' := by
 obtain ⟨w1, hw1⟩ := nmE (w.alloc (.cells #[.int .i64 0, .int .i64 0, .bool false] 81)); have hb1 := abE hw1; have hn1 := anE hw1; have h1 := h.below hb1; have HA := hE0 (aaM h1 o); have hs8 : IntKind.u64.wrap ((adr base o : Int) - 8) = (adr base (o - 8) : Int) := by rw [IntKind.wrap_u64]; unfold adr; omega
 have HS8 := hE0 hs8; have hwd := abZ h1 hb hl (o - 8) (by omega) _ hv; dsimp only [wdV] at hwd; have HW := hE0 hwd; have HW1 := hE0 hw1; have HB1 := hE0 hb1; have HN1 := hE0 hn1; clear hv hwd hs8 hw1 hb1 hn1 h1 h; go_enter Tryz.func133, Tryz.ntmps133
 go_wp2_with fail
 rw [HW1.out]
 with_reducible refine HA.out.mono ?_
 rintro e w2 ⟨rfl, rfl⟩; go_wp2_with fail
 rw [HS8.out]
 with_reducible refine HW.out.mono ?_
 rintro e w2 ⟨rfl, rfl⟩; have hlt := aaa HN1.out; obtain ⟨⟨c0, c1, c2⟩, f0, f1, f2⟩ := aad HN1.out; go_wp2
 (try simp only [Exit.inBlock, Exit.then])
 refine abM (x := aaz false 3) (g := w.heap.size) (o := 0) (s := 0) (b := false) Tryz.results133 ?_ ?_ ?_ ?_ ?_
 · rfl
 · rfl
 · rfl
 · exact aaC HN1.out _ _ _
 · exact ⟨rfl, ((HB1.out.setCell (Nat.le_refl _) _).setCell (Nat.le_refl _) _).setCell (Nat.le_refl _) _⟩
theorem aov (h : Ar w 79 g base cap A c bs) (hb : base <= 4611686018427387904) (hl : bs.length <= 16384) (o : Int) (ho : -9223372036854775808 <= o /\ o <= 9223372036854775807) (v : Nat) (hvl : v < 18446744073709551616) (hv : word? bs (o - 8) = some v) (hu : ad3 v = none) :
 Calls Tryz.prog 133 #[.pointer (some ⟨g, 0, none⟩), .int .i64 o] w fun e w' => e = .returned (.tuple #[bkV none, aaz false 3]) /\ Below w.heap.size w w' := by
 obtain ⟨w1, hw1⟩ := nmE (w.alloc (.cells #[.int .i64 0, .int .i64 0, .bool false] 81)); have hb1 := abE hw1; have hn1 := anE hw1; have h1 := h.below hb1; have HA := hE0 (aaM h1 o); have hs8 : IntKind.u64.wrap ((adr base o : Int) - 8) = (adr base (o - 8) : Int) := by rw [IntKind.wrap_u64]; unfold adr; omega
 have HS8 := hE0 hs8; have hwd := abZ h1 hb hl (o - 8) (by omega) _ hv; dsimp only [wdV] at hwd; have HW := hE0 hwd; have hup := abK w1 v hvl; rw [hu] at hup; dsimp only [amq] at hup; have HU := hE0 hup; have HW1 := hE0 hw1; have HB1 := hE0 hb1; have HN1 := hE0 hn1; clear hv hwd hu hup hs8 hw1 hb1 hn1 h1 h; go_enter Tryz.func133, Tryz.ntmps133
 go_wp2_with fail
 rw [HW1.out]
 with_reducible refine HA.out.mono ?_
 rintro e w2 ⟨rfl, rfl⟩; go_wp2_with fail
 rw [HS8.out]
 with_reducible refine HW.out.mono ?_
 rintro e w2 ⟨rfl, rfl⟩; go_wp2_with fail
 with_reducible refine HU.out.mono ?_
 rintro e w2 ⟨rfl, rfl⟩; have hlt := aaa HN1.out; obtain ⟨⟨c0, c1, c2⟩, f0, f1, f2⟩ := aad HN1.out; go_wp2
 (try simp only [Exit.inBlock, Exit.then])
 refine abM (x := aaz false 3) (g := w.heap.size) (o := 0) (s := 0) (b := false) Tryz.results133 ?_ ?_ ?_ ?_ ?_
 · rfl
 · rfl
 · rfl
 · exact aaC HN1.out _ _ _
 · exact ⟨rfl, ((HB1.out.setCell (Nat.le_refl _) _).setCell (Nat.le_refl _) _).setCell (Nat.le_refl _) _⟩
theorem aow (h : Ar w 79 g base cap A c bs) (hb : base <= 4611686018427387904) (hl : bs.length <= 16384) (o : Int) (ho : -9223372036854775808 <= o /\ o <= 9223372036854775807) (v : Nat) (hvl : v < 18446744073709551616) (hv : word? bs (o - 8) = some v) (s : Nat) (u : Bool) (hu : ad3 v = some (s, u)) (hs : 32 <= s /\ s <= 16384) (hob : 0 <= o /\ o <= 16384) (hx : abt bs (o - (s : Int)) = none) :
 Calls Tryz.prog 133 #[.pointer (some ⟨g, 0, none⟩), .int .i64 o] w fun e w' => e = .returned (.tuple #[bkV none, aaz false 3]) /\ Below w.heap.size w w' := by
 obtain ⟨w1, hw1⟩ := nmE (w.alloc (.cells #[.int .i64 0, .int .i64 0, .bool false] 81)); have hb1 := abE hw1; have hn1 := anE hw1; have h1 := h.below hb1; have HA := hE0 (aaM h1 o); have hs8 : IntKind.u64.wrap ((adr base o : Int) - 8) = (adr base (o - 8) : Int) := by rw [IntKind.wrap_u64]; unfold adr; omega
 have HS8 := hE0 hs8; have hwd := abZ h1 hb hl (o - 8) (by omega) _ hv; dsimp only [wdV] at hwd; have HW := hE0 hwd; have hup := abK w1 v hvl; rw [hu] at hup; dsimp only [amq] at hup; have HU := hE0 hup; have hg := ahq w1 g base cap c A bs (o - (s : Int)) _ h1 hb hl (by omega) hx; dsimp only [aaL, bkV, Bk.val, Option.isSome, aaz] at hg; have HG := hE0 hg; have HW1 := hE0 hw1; have HB1 := hE0 hb1; have HN1 := hE0 hn1; clear hv hwd hu hup hx hg hs8 hw1 hb1 hn1 h1 h; go_enter Tryz.func133, Tryz.ntmps133
 go_wp2_with fail
 rw [HW1.out]
 with_reducible refine HA.out.mono ?_
 rintro e w2 ⟨rfl, rfl⟩; go_wp2_with fail
 rw [HS8.out]
 with_reducible refine HW.out.mono ?_
 rintro e w2 ⟨rfl, rfl⟩; go_wp2_with fail
 with_reducible refine HU.out.mono ?_
 rintro e w2 ⟨rfl, rfl⟩; go_wp2_with fail
 with_reducible refine HG.out.mono ?_
 rintro e w2 ⟨rfl, hb2⟩; have hlt := Nat.lt_of_lt_of_le (aaa HN1.out) hb2.size; have hn2 := (hb2.block _ (aaa HN1.out)).trans HN1.out; have hb02 : Below w.heap.size w w2 := HB1.out.trans (hb2.mono HB1.out.size); obtain ⟨⟨c0, c1, c2⟩, f0, f1, f2⟩ := aad hn2; have HN2 := hE0 hn2; have HB2 := hE0 hb02; clear hn2 hb02 hb2; go_wp2
 (try simp only [Exit.inBlock, Exit.then])
 refine abM (x := aaz false 3) (g := w.heap.size) (o := 0) (s := 0) (b := false) Tryz.results133 ?_ ?_ ?_ ?_ ?_
 · rfl
 · rfl
 · rfl
 · exact (((Below.refl _ _).alloc (Nat.le_refl _) _).block _ (by simp [World.setCell]; omega)).trans (aaC HN2.out _ _ _)
 · exact ⟨rfl, (((HB2.out.setCell (Nat.le_refl _) _).setCell (Nat.le_refl _) _).setCell (Nat.le_refl _) _).alloc (by simp [World.setCell]; omega) _⟩
theorem aox (h : Ar w 79 g base cap A c bs) (hb : base <= 4611686018427387904) (hl : bs.length <= 16384) (o : Int) (ho : -9223372036854775808 <= o /\ o <= 9223372036854775807) (v : Nat) (hvl : v < 18446744073709551616) (hv : word? bs (o - 8) = some v) (s : Nat) (u : Bool) (hu : ad3 v = some (s, u)) (hs : 32 <= s /\ s <= 16384) (hob : 0 <= o /\ o <= 16384) (xo xs : Nat) (xu : Bool) (hx : abt bs (o - (s : Int)) = some ⟨xo, xs, xu⟩) (hne : xs ≠ s) :
 Calls Tryz.prog 133 #[.pointer (some ⟨g, 0, none⟩), .int .i64 o] w fun e w' => e = .returned (.tuple #[bkV none, aaz false 3]) /\ Below w.heap.size w w' := by
 obtain ⟨w1, hw1⟩ := nmE (w.alloc (.cells #[.int .i64 0, .int .i64 0, .bool false] 81)); have hb1 := abE hw1; have hn1 := anE hw1; have h1 := h.below hb1; have HA := hE0 (aaM h1 o); have hs8 : IntKind.u64.wrap ((adr base o : Int) - 8) = (adr base (o - 8) : Int) := by rw [IntKind.wrap_u64]; unfold adr; omega
 have HS8 := hE0 hs8; have hwd := abZ h1 hb hl (o - 8) (by omega) _ hv; dsimp only [wdV] at hwd; have HW := hE0 hwd; have hup := abK w1 v hvl; rw [hu] at hup; dsimp only [amq] at hup; have HU := hE0 hup; have hg := ahq w1 g base cap c A bs (o - (s : Int)) _ h1 hb hl (by omega) hx; dsimp only [aaL, bkV, Bk.val, Option.isSome, aaz] at hg; have HG := hE0 hg; have hq : ((xs : Int) != (s : Int)) = true := by rw [bne_iff_ne]; omega
 have HW1 := hE0 hw1; have HB1 := hE0 hb1; have HN1 := hE0 hn1; clear hv hwd hu hup hx hg hne hs8 hw1 hb1 hn1 h1 h; go_enter Tryz.func133, Tryz.ntmps133
 go_wp2_with fail
 rw [HW1.out]
 with_reducible refine HA.out.mono ?_
 rintro e w2 ⟨rfl, rfl⟩; go_wp2_with fail
 rw [HS8.out]
 with_reducible refine HW.out.mono ?_
 rintro e w2 ⟨rfl, rfl⟩; go_wp2_with fail
 with_reducible refine HU.out.mono ?_
 rintro e w2 ⟨rfl, rfl⟩; go_wp2_with fail
 with_reducible refine HG.out.mono ?_
 rintro e w2 ⟨rfl, hb2⟩; have hlt := Nat.lt_of_lt_of_le (aaa HN1.out) hb2.size; have hn2 := (hb2.block _ (aaa HN1.out)).trans HN1.out; have hb02 : Below w.heap.size w w2 := HB1.out.trans (hb2.mono HB1.out.size); obtain ⟨⟨c0, c1, c2⟩, f0, f1, f2⟩ := aad hn2; have HN2 := hE0 hn2; have HB2 := hE0 hb02; clear hn2 hb02 hb2; go_wp2
 (try simp only [Exit.inBlock, Exit.then])
 refine abM (x := aaz false 3) (g := w.heap.size) (o := 0) (s := 0) (b := false) Tryz.results133 ?_ ?_ ?_ ?_ ?_
 · rfl
 · rfl
 · rfl
 · exact (((Below.refl _ _).alloc (Nat.le_refl _) _).block _ (by simp [World.setCell]; omega)).trans (aaC HN2.out _ _ _)
 · exact ⟨rfl, (((HB2.out.setCell (Nat.le_refl _) _).setCell (Nat.le_refl _) _).setCell (Nat.le_refl _) _).alloc (by simp [World.setCell]; omega) _⟩
theorem aoy (h : Ar w 79 g base cap A c bs) (hb : base <= 4611686018427387904) (hl : bs.length <= 16384) (o : Int) (ho : -9223372036854775808 <= o /\ o <= 9223372036854775807) (v : Nat) (hvl : v < 18446744073709551616) (hv : word? bs (o - 8) = some v) (s : Nat) (u : Bool) (hu : ad3 v = some (s, u)) (hs : 32 <= s /\ s <= 16384) (hob : 0 <= o /\ o <= 16384) (xo : Nat) (xu : Bool) (hx : abt bs (o - (s : Int)) = some ⟨xo, s, xu⟩) :
 Calls Tryz.prog 133 #[.pointer (some ⟨g, 0, none⟩), .int .i64 o] w fun e w' => e = .returned (.tuple #[bkV (some ⟨xo, s, xu⟩), aaz true 3]) /\ Below w.heap.size w w' := by
 obtain ⟨w1, hw1⟩ := nmE (w.alloc (.cells #[.int .i64 0, .int .i64 0, .bool false] 81)); have hb1 := abE hw1; have hn1 := anE hw1; have h1 := h.below hb1; have HA := hE0 (aaM h1 o); have hs8 : IntKind.u64.wrap ((adr base o : Int) - 8) = (adr base (o - 8) : Int) := by rw [IntKind.wrap_u64]; unfold adr; omega
 have HS8 := hE0 hs8; have hwd := abZ h1 hb hl (o - 8) (by omega) _ hv; dsimp only [wdV] at hwd; have HW := hE0 hwd; have hup := abK w1 v hvl; rw [hu] at hup; dsimp only [amq] at hup; have HU := hE0 hup; have hg := ahq w1 g base cap c A bs (o - (s : Int)) _ h1 hb hl (by omega) hx; dsimp only [aaL, bkV, Bk.val, Option.isSome, aaz] at hg; have HG := hE0 hg; have HW1 := hE0 hw1; have HB1 := hE0 hb1; have HN1 := hE0 hn1; clear hv hwd hu hup hx hg hs8 hw1 hb1 hn1 h1 h; go_enter Tryz.func133, Tryz.ntmps133
 go_wp2_with fail
 rw [HW1.out]
 with_reducible refine HA.out.mono ?_
 rintro e w2 ⟨rfl, rfl⟩; go_wp2_with fail
 rw [HS8.out]
 with_reducible refine HW.out.mono ?_
 rintro e w2 ⟨rfl, rfl⟩; go_wp2_with fail
 with_reducible refine HU.out.mono ?_
 rintro e w2 ⟨rfl, rfl⟩; go_wp2_with fail
 with_reducible refine HG.out.mono ?_
 rintro e w2 ⟨rfl, hb2⟩; have hlt := Nat.lt_of_lt_of_le (aaa HN1.out) hb2.size; have hn2 := (hb2.block _ (aaa HN1.out)).trans HN1.out; have hb02 : Below w.heap.size w w2 := HB1.out.trans (hb2.mono HB1.out.size); obtain ⟨⟨c0, c1, c2⟩, f0, f1, f2⟩ := aad hn2; have HN2 := hE0 hn2; have HB2 := hE0 hb02; clear hn2 hb02 hb2; go_wp2
 (try simp only [Exit.inBlock, Exit.then])
 refine abM (x := aaz true 3) (g := w.heap.size) (o := (xo : Int)) (s := (s : Int)) (b := xu) Tryz.results133 ?_ ?_ ?_ ?_ ?_
 · rfl
 · rfl
 · rfl
 · exact (((Below.refl _ _).alloc (Nat.le_refl _) _).block _ (by simp [World.setCell]; omega)).trans (aaC HN2.out _ _ _)
 · exact ⟨rfl, (((HB2.out.setCell (Nat.le_refl _) _).setCell (Nat.le_refl _) _).setCell (Nat.le_refl _) _).alloc (by simp [World.setCell]; omega) _⟩
end
theorem ak3 : apx := by
 intro w g base cap c A bs o x h hb hl ho hx; subst hx; unfold aaL; rw [ak2]
 cases hv : word? bs (o - 8) with
 | none => exact aou h hb hl o ho hv
 | some v =>
  have h8 : 0 <= o - 8 /\ o - 8 + 8 <= bs.length := by
   unfold word? at hv; split at hv
   · assumption
   · cases hv
  have hvl : v < 18446744073709551616 := by
   have hvi : some (aae bs (o - 8).toNat) = some v := by rw [<- hv]; unfold word?; rw [if_pos h8]
   rw [<- Option.some.inj hvi]; exact aao _ _
  dsimp only
  cases hu : ad3 v with
  | none => exact aov h hb hl o ho v hvl hv hu
  | some su =>
   obtain ⟨s, u⟩ := su; have hss := (aac _).1 (ad4 hu).1; dsimp only
   cases hx : abt bs (o - (s : Int)) with
   | none => exact aow h hb hl o ho v hvl hv s u hu (by omega) (by omega) hx
   | some x =>
    obtain ⟨xo, xs, xu⟩ := x; dsimp only; by_cases hs : xs = s
    · subst hs; rw [if_pos rfl]; exact aoy h hb hl o ho v hvl hv xs u hu (by omega) (by omega) xo xu hx
    · rw [if_neg hs]; exact aox h hb hl o ho v hvl hv s u hu (by omega) (by omega) xo xs xu hx hs
theorem ahr (bs : List UInt8) (o v e k : Nat) (h1 : o + 8 <= e) (h2 : e + 8 <= bs.length) : aif (aif bs e k) o v = aif (aif bs o v) e k := by
 have hv := aaT 8 v; have hk := aaT 8 k; unfold aif lay; rw [hv, hk]; refine List.ext_getElem? fun i => ?_; simp only [List.getElem?_append, List.length_append, List.length_take, List.length_drop, List.getElem?_take, List.getElem?_drop, hv, hk]; repeat' split
 all_goals first | rfl | omega | (congr 1; omega) | skip
theorem Became.trans {t : TypeId} {g base cap c' : Nat} {A A' : Option Addr} {b1 b2 : List UInt8} {w w1 w2 : World} (h : Ar w1 t g base cap A' c' b1) (ht : Tch (abg g A) w w1) (hA : A' = A \/ ∀ a, A' = some a -> w.heap.size <= a.block) (k : Became t g base cap A' b2 w1 w2) : Became t g base cap A b2 w w2 := by
 obtain ⟨A2, c2, k1, k2, k3⟩ := k; refine ⟨A2, c2, k1, ht.trans k2 (fun i hi hf => ?_), ?_⟩
 · rcases hf with rfl | ⟨a, e, rfl⟩
   · exact .inl rfl
   · rcases hA with hA | hA
     · exact .inr ⟨a, hA ▸ e, rfl⟩
     · exact absurd (hA a e) (by omega)
 · rcases k3 with k3 | k3
   · rcases hA with hA | hA
     · exact .inl (k3.trans hA)
     · exact .inr fun a ha => hA a (k3 ▸ ha)
   · exact .inr fun a ha => Nat.le_trans ht.size (k3 a ha)
section
variable {w : World} {g base cap c : Nat} {A : Option Addr} {bs : List UInt8}
theorem aqg (w : World) (g : Nat) (o s : Int) (hs : -9223372036854775808 <= s /\ s <= 9223372036854775807) (u : Bool) (m : Nat) (hm : acU s u = m) (h0 : m = 0) :
 Calls Tryz.prog 117 #[.pointer (some ⟨g, 0, none⟩), .agg #[.int .i64 o, .int .i64 s, .bool u]] w fun e w' => e = .returned (aaz false 1) /\ Below w.heap.size w w' := by
 obtain ⟨w1, hw1⟩ := nmE (w.alloc (.cells #[.int .i64 o, .int .i64 s, .bool u] 81)); have hb1 := abE hw1; have hn1 := anE hw1; have HP := hE0 (ad7 w1 s u (by omega) m hm); have HW1 := hE0 hw1; have HB1 := hE0 hb1; have HN1 := hE0 hn1; subst h0; clear hm hw1 hb1 hn1; go_enter Tryz.func117, Tryz.ntmps117
 obtain ⟨⟨c0, c1, c2⟩, f0, f1, f2⟩ := aad HN1.out; go_wp2_with fail
 rw [HW1.out]; go_wp2_with fail
 with_reducible refine HP.out.mono ?_
 rintro e w2 ⟨rfl, rfl⟩; go_wp2
 go_ret
 exact ⟨rfl, HB1.out⟩
theorem aqh (w : World) (g : Nat) (o : Int) (ho : -9223372036854775808 <= o /\ o <= 9223372036854775807) (s : Int) (hs : -9223372036854775808 <= s /\ s <= 9223372036854775807) (u : Bool) (m : Nat) (hm : acU s u = m) (h0 : m ≠ 0) (hc : plc o = false) :
 Calls Tryz.prog 117 #[.pointer (some ⟨g, 0, none⟩), .agg #[.int .i64 o, .int .i64 s, .bool u]] w fun e w' => e = .returned (aaz false 1) /\ Below w.heap.size w w' := by
 obtain ⟨w1, hw1⟩ := nmE (w.alloc (.cells #[.int .i64 o, .int .i64 s, .bool u] 81)); have hb1 := abE hw1; have hn1 := anE hw1; have HP := hE0 (ad7 w1 s u (by omega) m hm); have HC := hE0 (aby w1 o ho false hc); have hm0 : ((m : Int) == 0) = false := by rw [beq_eq_false_iff_ne]; omega
 have HW1 := hE0 hw1; have HB1 := hE0 hb1; have HN1 := hE0 hn1; clear hm hw1 hb1 hn1 h0 hc; go_enter Tryz.func117, Tryz.ntmps117
 obtain ⟨⟨c0, c1, c2⟩, f0, f1, f2⟩ := aad HN1.out; go_wp2_with fail
 rw [HW1.out]; go_wp2_with fail
 with_reducible refine HP.out.mono ?_
 rintro e w2 ⟨rfl, rfl⟩; go_wp2_with fail
 with_reducible refine HC.out.mono ?_
 rintro e w2 ⟨rfl, rfl⟩; go_wp2
 go_ret
 exact ⟨rfl, HB1.out⟩
theorem aqi (h : Ar w 79 g base cap A c bs) (hb : base <= 4611686018427387904) (hl : bs.length <= 16384) (o : Int) (ho : -9223372036854775808 <= o /\ o <= 9223372036854775807) (s : Int) (hs : -9223372036854775808 <= s /\ s <= 9223372036854775807) (u : Bool) (m : Nat) (hm : acU s u = m) (hm2 : m < 18446744073709551616) (h0 : m ≠ 0) (hc : plc o = true) (hss : 32 <= s /\ s <= 16384) (hlt : (bs.length : Int) < o + s) :
 Calls Tryz.prog 117 #[.pointer (some ⟨g, 0, none⟩), .agg #[.int .i64 o, .int .i64 s, .bool u]] w fun e w' => e = .returned (aaz false 1) /\ Below w.heap.size w w' := by
 obtain ⟨w1, hw1⟩ := nmE (w.alloc (.cells #[.int .i64 o, .int .i64 s, .bool u] 81)); have hb1 := abE hw1; have hn1 := anE hw1; have h1 := h.below hb1; have HP := hE0 (ad7 w1 s u (by omega) m hm); have HC := hE0 (aby w1 o ho true hc); have hm0 : ((m : Int) == 0) = false := by rw [beq_eq_false_iff_ne]; omega
 have hpl := (ae5 o).1 hc; obtain ⟨z, hz⟩ := nmE (wrap64 (wrap64 (o + s) - 8)); have hzb : -9223372036854775808 <= z /\ z <= 9223372036854775807 /\ (z < 0 \/ (bs.length : Int) < z + 8) := by rw [<- hz]; unfold wrap64; omega
 have HZ := hE0 hz; have HA := hE0 (aaM h1 z); have HS := hE0 (ajN h1 (by omega) (adr base z) m (anQ _ _) hm2 (ak1 base hb z (by omega) bs.length 8 (by omega) (by omega) hzb.2.2)); have HW1 := hE0 hw1; have HB1 := hE0 hb1; have HN1 := hE0 hn1; clear hm hw1 hb1 hn1 h0 hc h1 h hz hpl; go_enter Tryz.func117, Tryz.ntmps117
 obtain ⟨⟨c0, c1, c2⟩, f0, f1, f2⟩ := aad HN1.out; go_wp2_with fail
 rw [HW1.out]; go_wp2_with fail
 with_reducible refine HP.out.mono ?_
 rintro e w2 ⟨rfl, rfl⟩; go_wp2_with fail
 with_reducible refine HC.out.mono ?_
 rintro e w2 ⟨rfl, rfl⟩; go_wp2_with fail
 rw [HZ.out]
 with_reducible refine HA.out.mono ?_
 rintro e w2 ⟨rfl, rfl⟩; go_wp2_with fail
 with_reducible refine HS.out.mono ?_
 rintro e w2 ⟨rfl, hb2⟩; have HB2 := hE0 (HB1.out.trans (hb2.mono HB1.out.size)); clear hb2; go_wp2
 go_ret
 exact ⟨rfl, HB2.out⟩
theorem aqj (h : Ar w 79 g base cap A c bs) (hb : base <= 4611686018427387904) (hl : bs.length <= 16384) (o s : Nat) (u : Bool) (m : Nat) (hm : acU (s : Int) u = m) (hm2 : m < 18446744073709551616) (h0 : m ≠ 0) (hc : plc (o : Int) = true) (hss : 32 <= s /\ s <= 16384) (hle : o + s <= bs.length) :
 Calls Tryz.prog 117 #[.pointer (some ⟨g, 0, none⟩), .agg #[.int .i64 (o : Int), .int .i64 (s : Int), .bool u]] w fun e w' => e = .returned (aaz true 1) /\ Became 79 g base cap A (aif (aif bs o m) (o + s - 8) m) w w' := by
 obtain ⟨w1, hw1⟩ := nmE (w.alloc (.cells #[.int .i64 (o : Int), .int .i64 (s : Int), .bool u] 81)); have hb1 := abE hw1; have hn1 := anE hw1; have h1 := h.below hb1; have HP := hE0 (ad7 w1 (s : Int) u (by omega) m hm); have HC := hE0 (aby w1 (o : Int) (by omega) true hc); have hm0 : ((m : Int) == 0) = false := by rw [beq_eq_false_iff_ne]; omega
 have hgl : ∀ k, abg g A k -> k < w.heap.size := fun k hk => h.foot_lt hk; have HA := hE0 (aaM h1 ((o : Int) + (s : Int) - 8)); have e1 : adr base ((o : Int) + (s : Int) - 8) = base + (o + s - 8) := by rw [show (o : Int) + (s : Int) - 8 = ((o + s - 8 : Nat) : Int) by omega]; exact agw base hb _ (by omega)
 obtain ⟨x1, hx1⟩ : ∃ x1 : Nat, base + (o + s - 8) = x1 := ⟨_, rfl⟩; obtain ⟨x2, hx2⟩ : ∃ x2 : Nat, base + o = x2 := ⟨_, rfl⟩; rw [e1, hx1] at HA; have HS := hE0 (ael h1 (by omega) x1 (o + s - 8) m (by omega) hm2 (by omega) (by omega) (by omega)); have HW1 := hE0 hw1; have HB1 := hE0 hb1; have HN1 := hE0 hn1; have HSW := hE0 (ahr bs o m (o + s - 8) m (by omega) (by omega)); have HGL := hE0 hgl; have HX2 := hE0 hx2; have HBB := hE0 hb; clear hm hw1 hb1 hn1 h0 hc h1 h e1 hgl hx1; go_enter Tryz.func117, Tryz.ntmps117
 obtain ⟨⟨c0, c1, c2⟩, f0, f1, f2⟩ := aad HN1.out; go_wp2_with fail
 rw [HW1.out]; go_wp2_with fail
 with_reducible refine HP.out.mono ?_
 rintro e w2 ⟨rfl, rfl⟩; go_wp2_with fail
 with_reducible refine HC.out.mono ?_
 rintro e w2 ⟨rfl, rfl⟩; go_wp2_with fail
 with_reducible refine HA.out.mono ?_
 rintro e w2 ⟨rfl, rfl⟩; go_wp2_with fail
 with_reducible refine HS.out.mono ?_
 rintro e w2 ⟨rfl, A2, c2, a2, t2, k2⟩; have hn2 := (t2.block _ (aab HN1.out) (fun hf => absurd (HGL.out _ hf) (by omega))).trans HN1.out; obtain ⟨⟨d0, d1, d2⟩, _⟩ := aad hn2; have HA2 := hE0 (aaM a2 (o : Int)); rw [agw base HBB.out o (by omega), HX2.out] at HA2; have HS2 := hE0 (ael a2 (by rw [acB _ _ _ (by rw [aaT]; omega)]; omega) x2 o m (by omega) hm2 (by omega) (by omega) (by rw [acB _ _ _ (by rw [aaT]; omega)]; omega)); have HAR := hE0 a2; have HT := hE0 t2; have HK := hE0 k2; clear a2 t2 k2 hn2; go_wp2_with fail
 with_reducible refine HA2.out.mono ?_
 rintro e w3 ⟨rfl, rfl⟩; go_wp2_with fail
 with_reducible refine HS2.out.mono ?_
 rintro e w3 ⟨rfl, hbe⟩; have hbe2 := (Became.trans HAR.out HT.out HK.out hbe).after HB1.out; have hbe3 : Became 79 g base cap A (aif (aif bs o m) (o + s - 8) m) w w3 := by rw [<- HSW.out]; exact hbe2
 have HE := hE0 hbe3; clear hbe hbe2 hbe3; go_wp2
 go_ret
 exact ⟨rfl, HE.out⟩
end
theorem aqQ : aqU := by
 intro w g base cap c A bs o s u y h hb hl ho hs hy; subst hy
 cases hz : aaG s with
 | false =>
  have e : adM bs o s u = none := by unfold adM; rw [if_neg (fun h => by rw [hz] at h; cases h.1)]
  rw [e]; exact aqg w g o s hs u _ rfl (by simp [acU, hz])
 | true =>
  have hss := (aac _).1 hz; have hm0 : acU s u ≠ 0 := by
   simp only [acU, hz, if_true]; omega
  have hm2 : acU s u < 18446744073709551616 := by have := ai4 s u; omega
  cases hc : plc o with
  | false =>
   have e : adM bs o s u = none := by
    unfold adM; rw [if_neg]; rintro ⟨_, h2⟩; have := (abi _ _ _).1 h2; rw [(ae5 o).2 (by omega)] at hc
    cases hc
   rw [e]; exact aqh w g o ho s hs u _ rfl hm0 hc
  | true =>
   have hp := (ae5 o).1 hc; by_cases hle : o + s <= bs.length
   · obtain ⟨p, rfl⟩ : ∃ p : Nat, o = (p : Int) := ⟨o.toNat, by omega⟩; obtain ⟨q, rfl⟩ : ∃ q : Nat, s = (q : Int) := ⟨s.toNat, by omega⟩; have e : adM bs (p : Int) (q : Int) u = some (aif (aif bs p (acU (q : Int) u)) (p + q - 8) (acU (q : Int) u)) := by
      unfold adM; rw [if_pos ⟨hz, (abi _ _ _).2 (by omega)⟩, Int.toNat_natCast, show ((p : Int) + (q : Int) - 8).toNat = p + q - 8 by omega]
     rw [e]; exact aqj h hb hl p q u _ rfl hm2 hm0 hc (by omega) (by omega)
   · have e : adM bs o s u = none := by
      unfold adM; rw [if_neg]; rintro ⟨_, h2⟩; have := (abi _ _ _).1 h2; omega
     rw [e]; exact aqi h hb hl o ho s hs u _ rfl hm2 hm0 hc (by omega) (by omega)
theorem afw : apy := by
 intro w g base cap c A bs x h hb hl hx; by_cases h0 : bs.length < 184
 · obtain rfl : none = x := by rw [<- hx]; unfold aco; rw [if_pos h0]
   have HL := hE0 (abX h); clear hx; go_enter Tryz.func42, Tryz.ntmps42
   go_wp2_with fail
   with_reducible refine HL.out.mono ?_
   rintro e w2 ⟨rfl, rfl⟩; go_wp2
   go_ret2
   exact ⟨none, 0, rfl, World.ownsRow_nil _ _ _ _, Below.refl _ _⟩
 · have hx' : acW bs (bs.length + 1) 184 = x := by rw [<- hx]; unfold aco; rw [if_neg h0]
   obtain ⟨i0, hi, hz0, hz1, hz2⟩ := info_parts adg; have HX := hE0 hx'; have HAR := hE0 h; have HBASE := hE0 hb; have HL := hE0 (abX h); obtain ⟨B0, hB0⟩ := nmE w.heap.size; have HB0 := hE0 hB0; clear hx hx' h hB0 hb; go_enter Tryz.func42, Tryz.ntmps42
   go_wp2_with fail
   with_reducible refine HL.out.mono ?_
   rintro e w2 ⟨rfl, rfl⟩; go_wp2
   go_loopw [4, 5] (fun q t wr => ∃ (l : List Bk) (o k : Nat), t = .int .i64 (o : Int) /\ 184 <= o /\ o <= bs.length /\ bs.length < o + k /\ l.length * 32 <= o /\ x = (acW bs k o).map (l ++ ·) /\ wr.ownsRow B0 81 3 q l.length (aaU l) /\ Below B0 w wr) (fun _ t _ => bs.length - (intOf t).toNat)
   case atStart => exact ⟨[], 184, bs.length + 1, rfl, Nat.le_refl _, by omega, by omega, by simp, by rw [HX.out]; simp, World.ownsRow_nil _ _ _ _, Below.refl _ _⟩
   case round =>
    obtain ⟨l, o, k, rfl, ho1, ho2, hk, hll, hxl, hown, hb⟩ := hrel; obtain ⟨A7, c7, rfl⟩ := aa0 hown; obtain ⟨k, rfl⟩ : ∃ k', k = k' + 1 := ⟨k - 1, by omega⟩; have hBw : B0 <= wr.heap.size := by have := hb.size; have := HB0.out; omega
    have har := HAR.out.below (by rw [HB0.out]; exact hb); have HLR := hE0 (abX har); by_cases hlt : o < bs.length
    · cases hg : abt bs (o : Int) with
      | none =>
       have hG := ahq wr g base cap c A bs (o : Int) _ har HBASE.out hl (by omega) hg; dsimp only [aaL, bkV, Option.isSome, aaz] at hG; obtain rfl : x = none := by rw [hxl]; simp [acW, hlt, hg]
       have HG := hE0 hG; have HB := hE0 hb; clear hG hown hb hg hxl har HX HAR; go_wp2_with fail
       with_reducible refine HLR.out.mono ?_
       rintro e w2 ⟨rfl, rfl⟩; go_wp2_with fail
       with_reducible refine HG.out.mono ?_
       rintro e w2 ⟨rfl, hb2⟩; have HB2 := hE0 (HB.out.trans (hb2.mono hBw)); clear hb2; go_wp2
       go_ret2
       exact ⟨none, 0, rfl, World.ownsRow_nil _ _ _ _, by rw [HB0.out]; exact HB2.out.alloc (by have := HB2.out.size; have := HB0.out; omega) _⟩
      | some y =>
       obtain ⟨yo, ys, yu⟩ := y; obtain ⟨q1, _, _, q2, q3, _⟩ := aaJ hg; dsimp only at q1 q2 q3; obtain rfl : o = yo := by omega
       have q4 := (aac _).1 q3; have hG := ahq wr g base cap c A bs (o : Int) _ har HBASE.out hl (by omega) hg; dsimp only [aaL, bkV, Bk.val, Option.isSome, aaz] at hG; have hxl' : x = (acW bs k (o + ys)).map ((l ++ [⟨o, ys, yu⟩]) ++ ·) := by
        rw [hxl]; simp [acW, hlt, hg, Option.map_map, Function.comp_def]
       have HG := hE0 hG; have HB := hE0 hb; have HXL := hE0 hxl'; have HOWN := hE0 hown; have HALT : Hid (∀ k, (Value.slice A7 l.length c7).ownBlock = some k -> B0 <= k /\ k < wr.heap.size) := hown.lt; clear hG hown hb hg hxl hxl' har q1 q3 HX HAR; go_wp2_with fail
       with_reducible refine HLR.out.mono ?_
       rintro e w2 ⟨rfl, rfl⟩; go_wp2_with fail
       with_reducible refine HG.out.mono ?_
       rintro e w2 ⟨rfl, hb2⟩; have own2 := aay HOWN.out hb2; have HB2 := hE0 (HB.out.trans (hb2.mono hBw)); have hw2 : B0 <= w2.heap.size := Nat.le_trans hBw hb2.size; have hwr := hb2.size; obtain ⟨w3, hw3⟩ := nmE (w2.alloc (.cells #[.int .i64 (o : Int), .int .i64 (ys : Int), .bool yu] 81)); obtain ⟨w4, hw4⟩ := nmE (w3.alloc (.cells #[.int .i64 (o : Int), .int .i64 (ys : Int), .bool yu] 81)); have b3 := abE hw3; have b4 := abE hw4; have own4 := aay (aay own2 b3) b4; have n4 := anE hw4; have s3 : w3.heap.size = w2.heap.size + 1 := by rw [<- hw3]; simp
       have n3 := anE hw3; obtain ⟨⟨d0, d1, d2⟩, _⟩ := aad n3; have n4' := (b4.block _ (aaa n3)).trans n3; have HNEW : Hid (∀ j u, [Value.int .i64 (o : Int), .int .i64 (ys : Int), .bool yu][j]? = some u -> w4.cell? ((⟨w3.heap.size, 0, none⟩ : Addr).add j) = some u) := fun j u hu => by
        have e : (⟨w3.heap.size, 0, none⟩ : Addr).add j = ⟨w3.heap.size, j, none⟩ := by unfold Addr.add; split <;> simp_all
        rw [e, cell_of_row w4 _ j _ _ (0, 0) n4]; simpa using hu
       have HONE : Hid (∀ u ∈ [Value.int .i64 (o : Int), .int .i64 (ys : Int), .bool yu], u.oneCell' = true) := fun u hu => by
        simp at hu; rcases hu with rfl | rfl | rfl <;> rfl
       have hB4 : B0 <= w4.heap.size := by have := b4.size; omega
       have HB4 := hE0 (HB2.out.trans ((b3.trans (b4.mono b3.size)).mono hw2)); have OWN4 := hE0 own4; have HN4 := hE0 n4'; have hs4 : w3.heap.size < w4.heap.size := aaa n4; have HS3 := hE0 s3; have HFL : Hid (aaU (l ++ [⟨o, ys, yu⟩]) = aaU l ++ [.int .i64 (o : Int), .int .i64 (ys : Int), .bool yu]) := abN _ _; have hg2 : w2.heap.size < w4.heap.size := aaa n4'; clear own2 own4 n3 n4 n4' b3 b4 hb2 HOWN HG s3; go_wp2_with (first
        | (at_builtin; go_must (refine wpList_append_own _ rfl _ _ 54 rfl B0 81 i0 _ 3 24 Tryz.underlying54 hi hz0 hz1 hz2 rfl (by decide) _ l.length (aaU l) rfl OWN4.out ⟨w3.heap.size, 0, none⟩ 1 1 [.int .i64 (o : Int), .int .i64 (ys : Int), .bool yu] rfl rfl HNEW.out HONE.out (by unfold maxLen; omega) (by omega) hB4 ?_); intro x5 w5 own5 gr5 at5;
           have gr5' : w4.grownBy w5 (Value.slice A7 l.length c7).ownBlock := gr5; have e5 := (gr5'.block _ hg2 (fun e => by have := (HALT.out _ e.symm).2; omega)).trans HN4.out; obtain ⟨⟨c0, c1, c2⟩, _⟩ := aad e5; have HB5 : Hid (Below B0 w w5) := HB4.out.grown gr5' hB4 (fun k hk => (HALT.out k hk).1); have OWN5 : Hid (w5.ownsRow B0 81 3 x5 (l.length + 1) (aaU (l ++ [⟨o, ys, yu⟩]))) := (show World.ownsRow _ _ _ _ _ _ _ by rw [HFL.out]; exact own5); clear own5 gr5 gr5' at5 e5)
        | fail)
       go_roundw
       case rel => exact ⟨l ++ [⟨o, ys, yu⟩], o + ys, k, by go_num, by omega, by omega, by omega, by rw [List.length_append, List.length_singleton]; omega, HXL.out, by rw [List.length_append, List.length_singleton]; exact OWN5.out, HB5.out⟩
       case measure => simp [intOf]; omega
    · obtain rfl : o = bs.length := by omega
      obtain rfl : x = some l := by rw [hxl]; simp [acW]
      have HB := hE0 hb; have HO := hE0 hown; clear hxl hown hb HX har HAR; go_wp2_with fail
      with_reducible refine HLR.out.mono ?_
      rintro e w2 ⟨rfl, rfl⟩; go_wp2
      go_ret2
      exact ⟨A7, c7, rfl, by rw [HB0.out]; exact HO.out, by rw [HB0.out]; exact HB.out⟩
structure St (wB W : World) (g base cap : Nat) (A : Option Addr) (c : Nat) (bs : List UInt8) (L : List (Nat × Obj)) : Prop where
 bel : Below wB.heap.size wB W
 ar : Ar W 79 g base cap A c bs
 gB : wB.heap.size <= g
 aB : ∀ a, A = some a -> wB.heap.size <= a.block
 has : ∀ p ∈ L, W.heap[p.1]? = some p.2
section
variable {wB W W' : World} {g base cap c : Nat} {A : Option Addr} {bs : List UInt8} {L : List (Nat × Obj)}
theorem St.size (h : St wB W g base cap A c bs L) : wB.heap.size <= W.heap.size := h.bel.size
theorem St.below (h : St wB W g base cap A c bs L) (hb : Below W.heap.size W W') : St wB W' g base cap A c bs L :=
 ⟨h.bel.trans (hb.mono h.size), h.ar.below hb, h.gB, h.aB, fun p hp => (hb.block p.1 (aab (h.has p hp))).trans (h.has p hp)⟩
end
section
variable {P : Program} {ops : Array Oper} {Q : Exit -> Act -> World -> Prop}
end
theorem ahs (ρ : Operand -> Value) (o : Oper) (ho : o.op = .alloc 81) (w : World) :
 (execOp ρ o).run Tryz.prog w = .ok (.value (.pointer (some ⟨w.heap.size, 0, none⟩))) (w.alloc (.cells #[.int .i64 0, .int .i64 0, .bool false] 81)) := by
 unfold execOp; simp only [ho]; simp [go_sem]
theorem ak4 (ρ : Operand -> Value) (o : Oper) (x y : Operand) (ho : o.op = .store 81 x y) (w : World) (gx : Nat) (p q : Int) (r : Bool) (v0 v1 v2 : Value) (hx : ρ x = .pointer (some ⟨gx, 0, none⟩)) (hy : ρ y = .agg #[.int .i64 p, .int .i64 q, .bool r]) (h : w.heap[gx]? = some (.cells #[v0, v1, v2] 81 (0, 0))) :
 (execOp ρ o).run Tryz.prog w = .ok .skip (((w.setCell ⟨gx, 0, none⟩ (.int .i64 p)).setCell ⟨gx, 1, none⟩ (.int .i64 q)).setCell ⟨gx, 2, none⟩ (.bool r)) := by
 obtain ⟨⟨e0, e1, e2⟩, f0, f1, f2⟩ := aad h; unfold execOp; simp only [ho, hx, hy]; simp [go_sem, e0, e1, e2, f0, f1, f2]
section
variable {wB W : World} {g base cap c : Nat} {A : Option Addr} {bs : List UInt8} {L : List (Nat × Obj)}
end
def aec (x : Option (List Nat)) (k : Int) (w : World) (e : Ending) (w' : World) : Prop :=
 ∃ A' c', e = .returned (.tuple #[.slice A' (x.getD []).length c', aaz x.isSome k]) /\ w'.ownsRow w.heap.size 3 1 (.slice A' (x.getD []).length c') (x.getD []).length ((x.getD []).map iV) /\ Below w.heap.size w w'
def aqV : Prop := ∀ (w : World) (g base cap c : Nat) (A : Option Addr) (bs : List UInt8) (o : Int) (y : Option (List UInt8)), Ar w 79 g base cap A c bs -> base <= 4611686018427387904 -> bs.length <= 16384 -> (-9223372036854775808 <= o /\ o <= 9223372036854775807) -> afI bs o = y ->
 Calls Tryz.prog 82 #[.pointer (some ⟨g, 0, none⟩), .int .i64 o] w fun e w' => amg 3 79 g base cap A y w e w'
def aqk : Prop := ∀ (w : World) (g base cap c : Nat) (A : Option Addr) (bs : List UInt8) (o : Int) (y : Option (List UInt8)), Ar w 79 g base cap A c bs -> base <= 4611686018427387904 -> bs.length <= 16384 -> (-9223372036854775808 <= o /\ o <= 9223372036854775807) -> adR bs o = y ->
 Calls Tryz.prog 134 #[.pointer (some ⟨g, 0, none⟩), .int .i64 o] w fun e w' => amg 3 79 g base cap A y w e w'
def aqR : Prop := ∀ (w : World) (g base cap c : Nat) (A : Option Addr) (bs : List UInt8) (k : Nat) (x : Option (List Nat)), Ar w 79 g base cap A c bs -> base <= 4611686018427387904 -> bs.length <= 16384 -> k < 22 -> aep bs k = x ->
 Calls Tryz.prog 46 #[.pointer (some ⟨g, 0, none⟩), .int .i64 (k : Int)] w fun e w' => aec x 3 w e w'
theorem aoz {a b : Int} (h : a = b) : Ending.returned (.int .u64 a) = .returned (.int .u64 b) := by rw [h]
theorem ae6 {t : TypeId} {g base cap : Nat} {A : Option Addr} {b1 b2 : List UInt8} {w w1 : World} {F : Nat} {args : Array Value} {r : Ending} (h : Became t g base cap A b1 w w1)
 (hc : ∀ A' c', Ar w1 t g base cap A' c' b1 -> Calls Tryz.prog F args w1 fun e w2 => e = r /\ Became t g base cap A' b2 w1 w2) : Calls Tryz.prog F args w1 fun e w2 => e = r /\ Became t g base cap A b2 w w2 := by
 obtain ⟨A', c', a, tc, k⟩ := h; refine (hc A' c' a).mono ?_; rintro e w2 ⟨h1, h2⟩; exact ⟨h1, Became.trans a tc k h2⟩
section
variable {w : World} {g base cap c : Nat} {A : Option Addr} {bs : List UInt8}
theorem aak (h : Ar w 79 g base cap A c bs) (hb : base <= 4611686018427387904) (hl : bs.length <= 16384) (o : Int) (p : Nat) (hp : o = (p : Int)) (ho : p + 8 <= bs.length) (v : Nat) (hv : aae bs p = v) :
 Calls Tryz.prog 77 #[.pointer (some ⟨g, 0, none⟩), .int .i64 o] w fun e w' => e = .returned (.int .u64 (v : Int)) /\ w = w' := by
 subst hp; have HA := hE0 (acu h); have hwd := abZ h hb hl (p : Int) (by omega) (some v) (by unfold word?; rw [if_pos (by omega), Int.toNat_natCast, hv]); dsimp only [wdV] at hwd; rw [agw base hb p (by omega), show ((base + p : Nat) : Int) = (base : Int) + (p : Int) by omega] at hwd; have HW := hE0 hwd; have hp2 : p <= 16384 := by omega
 clear hwd h hv ho hl; go_enter Tryz.func77, Tryz.ntmps77
 go_wp2_with fail
 with_reducible refine HA.out.mono ?_
 rintro e w1 ⟨rfl, rfl⟩; go_wp2_with fail
 refine HW.out.mono ?_; rintro e w1 ⟨rfl, rfl⟩; go_wp2
 go_ret
 exact ⟨rfl, rfl⟩
theorem agx (h : Ar w 79 g base cap A c bs) (hb : base <= 4611686018427387904) (hl : bs.length <= 16384) (o : Int) (p : Nat) (hp : o = (p : Int)) (ho : p + 8 <= bs.length) (v : Nat) (hv : v < 18446744073709551616) :
 Calls Tryz.prog 109 #[.pointer (some ⟨g, 0, none⟩), .int .i64 o, .int .u64 (v : Int)] w fun e w' => e = .returned (.tuple #[]) /\ Became 79 g base cap A (lyN bs p v) w w' := by
 subst hp; have HA := hE0 (acu h); have hwd := ael h (by omega) (base + p) p v (by omega) hv (by omega) (by omega) ho; rw [show lay bs p (aeS 8 v) = lyN bs p v from agt bs p v, show ((base + p : Nat) : Int) = (base : Int) + (p : Int) by omega] at hwd; have HW := hE0 hwd; have hp2 : p <= 16384 := by omega
 clear hwd h ho hl; go_enter Tryz.func109, Tryz.ntmps109
 go_wp2_with fail
 with_reducible refine HA.out.mono ?_
 rintro e w1 ⟨rfl, rfl⟩; go_wp2_with fail
 refine HW.out.mono ?_; rintro e w1 ⟨rfl, hbe⟩; have HB := hE0 hbe; clear hbe; go_wp2
 go_end0
 exact ⟨rfl, HB.out⟩
theorem aaV (w : World) (k : Nat) (hk : k < 22) :
 Calls Tryz.prog 78 #[.int .i64 (k : Int)] w fun e w' => e = .returned (.int .i64 (8 + 8 * (k : Int))) /\ w = w' := by
 go_enter Tryz.func78, Tryz.ntmps78
 go_wp2
 go_ret
 exact ⟨rfl, rfl⟩
theorem agy (w : World) (k : Nat) (hk : k < 22) :
 Calls Tryz.prog 106 #[.int .i64 (k : Int)] w fun e w' => e = .returned (.int .u64 ((2 ^ k : Nat) : Int)) /\ w = w' := by
 have HP := hE0 (aid k hk); go_enter Tryz.func106, Tryz.ntmps106
 go_wp2
 go_ret
 refine ⟨aoz ?_, rfl⟩; have hq := HP.out; have e : (2 : Int) ^ k = ((2 ^ k : Nat) : Int) := by rw [Int.natCast_pow]; rfl
 rw [IntKind.wrap_u64, e]; clear e HP; generalize 2 ^ k = q at hq; omega
end
section
variable {w : World} {g base cap c : Nat} {A : Option Addr} {bs : List UInt8}
theorem agz (h : Ar w 79 g base cap A c bs) (hb : base <= 4611686018427387904) (hl : bs.length <= 16384) (o : Int) (ho : -9223372036854775808 <= o /\ o <= 9223372036854775807) (hk : abf bs o < 0) :
 Calls Tryz.prog 108 #[.pointer (some ⟨g, 0, none⟩), .int .i64 o] w fun e w' => e = .returned (.tuple #[.int .i64 0, .bool false]) /\ Below w.heap.size w w' := by
 cases hg : abt bs o with
 | none =>
  have hG := ahq w g base cap c A bs o _ h hb hl ho hg; dsimp only [aaL, bkV, Option.isSome, aaz] at hG; have HG := hE0 hG; clear hG h hk hg; go_enter Tryz.func108, Tryz.ntmps108
  go_wp2_with fail
  with_reducible refine HG.out.mono ?_
  rintro e w1 ⟨rfl, hb⟩; go_wp2
  go_ret2
  exact ⟨rfl, hb.alloc hb.size _⟩
 | some x =>
  obtain ⟨xo, xs, xu⟩ := x; have hG := ahq w g base cap c A bs o _ h hb hl ho hg; dsimp only [aaL, bkV, Bk.val, Option.isSome, aaz] at hG; have q3 := (aaJ hg).2.2.2.2.1; dsimp only at q3; have q := (aac _).1 q3
  cases xu with
  | true =>
   have HG := hE0 hG; clear hG h hk hg q3; go_enter Tryz.func108, Tryz.ntmps108
   go_wp2_with fail
   with_reducible refine HG.out.mono ?_
   rintro e w1 ⟨rfl, hb⟩; go_wp2
   go_ret2
   exact ⟨rfl, hb.alloc hb.size _⟩
  | false =>
   obtain ⟨d, hd, _⟩ := abb (x := ⟨xo, xs, false⟩) q3; dsimp only at hd; unfold abf at hk; rw [hg] at hk; dsimp only at hk; rw [hd] at hk; simp at hk; omega
theorem abc (h : Ar w 79 g base cap A c bs) (hb : base <= 4611686018427387904) (hl : bs.length <= 16384) (o : Int) (ho : -9223372036854775808 <= o /\ o <= 9223372036854775807) (k : Nat) (hk : abf bs o = (k : Int)) :
 Calls Tryz.prog 108 #[.pointer (some ⟨g, 0, none⟩), .int .i64 o] w fun e w' => e = .returned (.tuple #[.int .i64 (k : Int), .bool true]) /\ Below w.heap.size w w' := by
 cases hg : abt bs o with
 | none => unfold abf at hk; rw [hg] at hk; dsimp only at hk; omega
 | some x =>
  obtain ⟨xo, xs, xu⟩ := x; have hG := ahq w g base cap c A bs o _ h hb hl ho hg; dsimp only [aaL, bkV, Bk.val, Option.isSome, aaz] at hG; have q := (aac _).1 (aaJ hg).2.2.2.2.1; dsimp only at q
  cases xu with
  | true => unfold abf at hk; rw [hg] at hk; simp at hk
  | false =>
   have hk' : aar (xs : Int) = (k : Int) := by rw [<- hk]; unfold abf; rw [hg]; rfl
   have HC := hE0 (fun w => ahp w (xs : Int) (by omega)); rw [hk'] at HC; have HG := hE0 hG; clear hG h hk hg hk'; go_enter Tryz.func108, Tryz.ntmps108
   go_wp2_with fail
   with_reducible refine HG.out.mono ?_
   rintro e w1 ⟨rfl, hb⟩; go_wp2_with fail
   with_reducible refine (HC.out _).mono ?_
   rintro e w2 ⟨rfl, hb2⟩; have hb3 := hb.alloc hb.size (.cells #[.int .i64 (xo : Int), .int .i64 (xs : Int), .bool false] 81); have HB := hE0 (hb3.trans (hb2.mono hb3.size)); clear hb hb2 hb3; go_wp2
   go_ret2
   exact ⟨rfl, HB.out⟩
theorem ac9 (h : Ar w 79 g base cap A c bs) (hb : base <= 4611686018427387904) (hl : bs.length <= 16384) (k p : Nat) (hk : k < 22) (hp : p < 18446744073709551616) (b : Bool) (hm : aat bs p (k : Int) = b) :
 Calls Tryz.prog 107 #[.pointer (some ⟨g, 0, none⟩), .int .i64 (k : Int), .int .u64 (p : Int)] w fun e w' => e = .returned (.bool b) /\ Below w.heap.size w w' := by
 have HL := hE0 (abX h); by_cases h0 : bs.length <= p
 · obtain rfl : false = b := by
    rw [<- hm]
    cases hq : aat bs p (k : Int) with
    | true => have := aaZ hq; omega
    | false => rfl
   clear hm h; go_enter Tryz.func107, Tryz.ntmps107
   go_wp2_with fail
   with_reducible refine HL.out.mono ?_
   rintro e w1 ⟨rfl, rfl⟩; go_wp2
   go_ret
   exact ⟨rfl, Below.refl _ _⟩
 · have h1 : p < bs.length := by omega
   rw [ahh, decide_eq_true (by omega), Bool.true_and] at hm; rcases adS bs (p : Int) with hf | ⟨j, hf⟩
   · obtain rfl : false = b := by rw [<- hm]; exact (beq_eq_false_iff_ne.2 (by omega)).symm
     have HF := hE0 (agz h hb hl (p : Int) (by omega) hf); clear hm h hf; go_enter Tryz.func107, Tryz.ntmps107
     go_wp2_with fail
     with_reducible refine HL.out.mono ?_
     rintro e w1 ⟨rfl, rfl⟩; go_wp2_with fail
     with_reducible refine HF.out.mono ?_
     rintro e w1 ⟨rfl, hb1⟩; have HB := hE0 hb1; clear hb1; go_wp2
     go_ret
     exact ⟨rfl, HB.out⟩
   · have HF := hE0 (abc h hb hl (p : Int) (by omega) j hf); rw [hf] at hm; have HM := hE0 hm; have hj := (abj hf).2.2; clear hm h hf; go_enter Tryz.func107, Tryz.ntmps107
     go_wp2_with fail
     with_reducible refine HL.out.mono ?_
     rintro e w1 ⟨rfl, rfl⟩; go_wp2_with fail
     with_reducible refine HF.out.mono ?_
     rintro e w1 ⟨rfl, hb1⟩; have HB := hE0 hb1; clear hb1; go_wp2
     go_ret
     exact ⟨amp HM.out, HB.out⟩
theorem abQ (h : Ar w 79 g base cap A c bs) (hb : base <= 4611686018427387904) (hl : bs.length <= 16384) (k p q u : Nat) (hk : k < 22) (hp : p < 18446744073709551616) (hq : q <= 16) (b : Bool) (hm : abC bs k p q u = b) :
 Calls Tryz.prog 80 #[.pointer (some ⟨g, 0, none⟩), .int .i64 (k : Int), .int .u64 (p : Int), .int .i64 (q : Int), .int .u64 (u : Int)] w fun e w' => e = .returned (.bool b) /\ Below w.heap.size w w' := by
 unfold abC at hm
 cases hmb : aat bs p (k : Int) with
 | false =>
  rw [hmb] at hm; obtain rfl : false = b := hm; have HM := hE0 (ac9 h hb hl k p hk hp false hmb); clear hmb h; go_enter Tryz.func80, Tryz.ntmps80
  go_wp2_with fail
  with_reducible refine HM.out.mono ?_
  rintro e w1 ⟨rfl, hb1⟩; have HB := hE0 hb1; clear hb1; go_wp2
  go_ret
  exact ⟨rfl, HB.out⟩
 | true =>
  have hin := aaZ hmb; obtain ⟨v, hv⟩ := nmE (aae bs (p + q)); have hvl : v < 18446744073709551616 := by rw [<- hv]; exact aao _ _
  rw [hmb, hv, Bool.true_and] at hm; have hm2 : ((v : Int) == (u : Int)) = b := by rw [<- hm, Bool.eq_iff_iff, beq_iff_eq, beq_iff_eq]; omega
  have HM := hE0 (ac9 h hb hl k p hk hp true hmb); have HN := hE0 (fun w1 (hb1 : Below w.heap.size w w1) => aak (h.below hb1) hb hl ((p : Int) + (q : Int)) (p + q) (by omega) (by omega) v hv); have HV := hE0 hm2; clear hmb h hm hm2 hv; go_enter Tryz.func80, Tryz.ntmps80
  go_wp2_with fail
  with_reducible refine HM.out.mono ?_
  rintro e w1 ⟨rfl, hb1⟩; have HB := hE0 hb1; clear hb1; go_wp2_with fail
  refine (HN.out _ HB.out).mono ?_; rintro e w2 ⟨rfl, rfl⟩; go_wp2
  go_ret
  exact ⟨amp HV.out, HB.out⟩
theorem aii (h : Ar w 79 g base cap A c bs) (hb : base <= 4611686018427387904) (hl : bs.length <= 16384) (hl2 : 184 <= bs.length) (k : Nat) (hk : k < 22) (b : Bool) (hm : acq (aae bs 0) k = b) :
 Calls Tryz.prog 79 #[.pointer (some ⟨g, 0, none⟩), .int .i64 (k : Int)] w fun e w' => e = .returned (.bool b) /\ w = w' := by
 obtain ⟨v, hv⟩ := nmE (aae bs 0); have hvl : v < 18446744073709551616 := by rw [<- hv]; exact aao _ _
 have HN := hE0 (aak h hb hl 0 0 rfl (by omega) v hv); rw [hv] at hm; have HV := hE0 ((aop v k hvl hk).trans hm); have HT := hE0 (agy w k hk); obtain ⟨m, hm2⟩ := nmE (2 ^ k); have hml : m <= 2097152 := by rw [<- hm2]; exact aid k hk
 rw [hm2] at HV HT; clear hm hv h hm2; go_enter Tryz.func79, Tryz.ntmps79
 go_wp2_with fail
 with_reducible refine HN.out.mono ?_
 rintro e w1 ⟨rfl, rfl⟩; go_wp2_with fail
 with_reducible refine HT.out.mono ?_
 rintro e w1 ⟨rfl, rfl⟩; go_wp2
 go_ret
 exact ⟨amp HV.out, rfl⟩
end
section
variable {w w1 : World} {g base cap c : Nat} {A : Option Addr} {bs b1 : List UInt8}
theorem abF (h : Ar w 79 g base cap A c bs) (hb : Below w.heap.size w w1) : Became 79 g base cap A bs w w1 := ⟨A, c, h.below hb, Tch.of_below hb, .inl rfl⟩
theorem aa4 (h : Became 79 g base cap A b1 w w1) (hb : base <= 4611686018427387904) (hl : b1.length <= 16384) (o : Int) (p : Nat) (hp : o = (p : Int)) (ho : p + 8 <= b1.length) (v : Nat) (hv : v < 18446744073709551616) :
 Calls Tryz.prog 109 #[.pointer (some ⟨g, 0, none⟩), .int .i64 o, .int .u64 (v : Int)] w1 fun e w2 => e = .returned (.tuple #[]) /\ Became 79 g base cap A (lyN b1 p v) w w2 :=
 ae6 h fun _ _ a => agx a hb hl o p hp ho v hv
theorem afP (h : Became 79 g base cap A b1 w w1) (hb : base <= 4611686018427387904) (hl : b1.length <= 16384) (o : Int) (p : Nat) (hp : o = (p : Int)) (ho : p + 8 <= b1.length) (v : Nat) (hv : aae b1 p = v) :
 Calls Tryz.prog 77 #[.pointer (some ⟨g, 0, none⟩), .int .i64 o] w1 fun e w2 => e = .returned (.int .u64 (v : Int)) /\ w1 = w2 := by
 obtain ⟨_, _, a, _, _⟩ := h; exact aak a hb hl o p hp ho v hv
theorem aht (h : Ar w 79 g base cap A c bs) (hb : base <= 4611686018427387904) (n : Nat) (hn : bs.length = n) (hl : n <= 16384) (hl2 : 184 <= n) (k : Nat) (hk : k < 22) :
 Calls Tryz.prog 110 #[.pointer (some ⟨g, 0, none⟩), .int .i64 (k : Int), .int .u64 0] w fun e w' => e = .returned (.tuple #[]) /\ Became 79 g base cap A (abS (lyN bs (8 + 8 * k) 0) k) w w' := by
 obtain ⟨b1, hb1⟩ := nmE (lyN bs (8 + 8 * k) 0); have hbl : b1.length = n := by rw [<- hb1, aal _ _ _ (by omega)]; exact hn
 have hw1 : aae b1 (8 + 8 * k) = 0 := by rw [<- hb1]; exact abP _ _ _ (by omega) (by omega)
 obtain ⟨v0, hv0⟩ := nmE (aae b1 0); have hvl : v0 < 18446744073709551616 := by rw [<- hv0]; exact aao _ _
 obtain ⟨m, hm⟩ := nmE (2 ^ k); have hml : m <= 2097152 := by rw [<- hm]; exact aid k hk
 obtain ⟨x, hx⟩ := nmE (ad8 v0 k false); have hxl : x < 18446744073709551616 := by rw [<- hx]; exact agn v0 k hk hvl false
 have hand : bits .andNot .u64 (v0 : Int) (m : Int) = (x : Int) := by rw [<- hm, <- hx]; exact afK v0 k hvl hk
 have hmk : abS b1 k = lyN b1 0 x := by rw [ajb b1 k (by omega), hw1, hv0]; simpa using congrArg (lyN b1 0) hx
 have HS1 := agx h hb (by omega) (8 + 8 * (k : Int)) (8 + 8 * k) (by omega) (by omega) 0 (by omega); rw [hb1] at HS1 ⊢; rw [hmk]; have HS1 := hE0 HS1; have HF := hE0 (aaV w k hk); have HT := fun W => agy W k hk; rw [hm] at HT; have HT := hE0 HT; have HN := hE0 (fun W (hB : Became 79 g base cap A b1 w W) => afP hB hb (by omega) 0 0 rfl (by omega) v0 hv0); have HS2 := hE0 (fun W (hB : Became 79 g base cap A b1 w W) => aa4 hB hb (by omega) 0 0 rfl (by omega) x hxl); clear h hb1 hw1 hv0 hm hx hmk hn hbl; go_enter Tryz.func110, Tryz.ntmps110
 go_wp2_with fail
 with_reducible refine HF.out.mono ?_
 rintro e w2 ⟨rfl, rfl⟩; go_wp2_with fail
 refine HS1.out.mono ?_; rintro e w2 ⟨rfl, be1⟩; have B1 := hE0 be1; clear be1; go_wp2_with fail
 refine (HN.out _ B1.out).mono ?_; rintro e w3 ⟨rfl, rfl⟩; go_wp2_with fail
 with_reducible refine (HT.out _).mono ?_
 rintro e w3 ⟨rfl, rfl⟩; go_wp2_with fail
 refine (HS2.out _ B1.out).mono ?_; rintro e w3 ⟨rfl, be2⟩; have B2 := hE0 be2; clear be2; go_wp2
 go_end0
 exact ⟨rfl, B2.out⟩
theorem agA (h : Ar w 79 g base cap A c bs) (hb : base <= 4611686018427387904) (n : Nat) (hn : bs.length = n) (hl : n <= 16384) (hl2 : 184 <= n) (k : Nat) (hk : k < 22) (v : Nat) (hv : v < 18446744073709551616) (hv0 : v ≠ 0) :
 Calls Tryz.prog 110 #[.pointer (some ⟨g, 0, none⟩), .int .i64 (k : Int), .int .u64 (v : Int)] w fun e w' => e = .returned (.tuple #[]) /\ Became 79 g base cap A (abS (lyN bs (8 + 8 * k) v) k) w w' := by
 obtain ⟨b1, hb1⟩ := nmE (lyN bs (8 + 8 * k) v); have hbl : b1.length = n := by rw [<- hb1, aal _ _ _ (by omega)]; exact hn
 have hw1 : aae b1 (8 + 8 * k) = v := by rw [<- hb1]; exact abP _ _ _ (by omega) (by omega)
 obtain ⟨v1, hv1⟩ := nmE (aae b1 0); have hvl : v1 < 18446744073709551616 := by rw [<- hv1]; exact aao _ _
 obtain ⟨m, hm⟩ := nmE (2 ^ k); have hml : m <= 2097152 := by rw [<- hm]; exact aid k hk
 obtain ⟨x, hx⟩ := nmE (ad8 v1 k false); obtain ⟨y, hy⟩ := nmE (ad8 v1 k true); have hxl : x < 18446744073709551616 := by rw [<- hx]; exact agn v1 k hk hvl false
 have hyl : y < 18446744073709551616 := by rw [<- hy]; exact agn v1 k hk hvl true
 have hand : bits .andNot .u64 (v1 : Int) (m : Int) = (x : Int) := by rw [<- hm, <- hx]; exact afK v1 k hvl hk
 have hor : bits .or .u64 (x : Int) (m : Int) = (y : Int) := by
  rw [<- hy, amr, hx, <- hm]; exact aps x k hxl hk (by rw [<- hx]; exact akK v1 k)
 have hmk : abS b1 k = lyN b1 0 y := by rw [ajb b1 k (by omega), hw1, hv1, decide_eq_true hv0, hy]
 have hne : ((v : Int) != 0) = true := by rw [bne_iff_ne]; omega
 have HS1 := agx h hb (by omega) (8 + 8 * (k : Int)) (8 + 8 * k) (by omega) (by omega) v hv; rw [hb1] at HS1 ⊢; rw [hmk]; have HS1 := hE0 HS1; have HF := hE0 (aaV w k hk); have HT := fun W => agy W k hk; rw [hm] at HT; have HT := hE0 HT; have HN := hE0 (fun W (hB : Became 79 g base cap A b1 w W) => afP hB hb (by omega) 0 0 rfl (by omega) v1 hv1); have HS2 := hE0 (fun W (hB : Became 79 g base cap A b1 w W) => aa4 hB hb (by omega) 0 0 rfl (by omega) y hyl); clear h hb1 hw1 hv1 hm hx hy hmk hn hbl; go_enter Tryz.func110, Tryz.ntmps110
 go_wp2_with fail
 with_reducible refine HF.out.mono ?_
 rintro e w2 ⟨rfl, rfl⟩; go_wp2_with fail
 refine HS1.out.mono ?_; rintro e w2 ⟨rfl, be1⟩; have B1 := hE0 be1; clear be1; go_wp2_with fail
 refine (HN.out _ B1.out).mono ?_; rintro e w3 ⟨rfl, rfl⟩; go_wp2_with fail
 with_reducible refine (HT.out _).mono ?_
 rintro e w3 ⟨rfl, rfl⟩; go_wp2_with fail
 with_reducible refine (HT.out _).mono ?_
 rintro e w3 ⟨rfl, rfl⟩; go_wp2_with fail
 refine (HS2.out _ B1.out).mono ?_; rintro e w3 ⟨rfl, be2⟩; have B2 := hE0 be2; clear be2; go_wp2
 go_end0
 exact ⟨rfl, B2.out⟩
theorem abu (h : Became 79 g base cap A b1 w w1) (hb : base <= 4611686018427387904) (n : Nat) (hn : b1.length = n) (hl : n <= 16384) (hl2 : 184 <= n) (k : Nat) (hk : k < 22) (v : Nat) (hv : v < 18446744073709551616) :
 Calls Tryz.prog 110 #[.pointer (some ⟨g, 0, none⟩), .int .i64 (k : Int), .int .u64 (v : Int)] w1 fun e w2 => e = .returned (.tuple #[]) /\ Became 79 g base cap A (abS (lyN b1 (8 + 8 * k) v) k) w w2 := by
 refine ae6 h fun _ _ a => ?_; by_cases h0 : v = 0
 · subst h0; exact aht a hb n hn hl hl2 k hk
 · exact agA a hb n hn hl hl2 k hk v hv h0
end
section
variable {w : World} {g base cap c : Nat} {A : Option Addr} {bs : List UInt8}
theorem aoA (h : Ar w 79 g base cap A c bs) (hb : base <= 4611686018427387904) (n : Nat) (hn : bs.length = n) (hl : n <= 16384) (o : Int) (ho : -9223372036854775808 <= o /\ o <= 9223372036854775807) (hk : abf bs o < 0) :
 Calls Tryz.prog 82 #[.pointer (some ⟨g, 0, none⟩), .int .i64 o] w fun e w' => e = .returned (aaz false 3) /\ Below w.heap.size w w' := by
 have HF := hE0 (agz h hb (by omega) o ho hk); clear h hk hn; go_enter Tryz.func82, Tryz.ntmps82
 go_wp2_with fail
 with_reducible refine HF.out.mono ?_
 rintro e w1 ⟨rfl, hb1⟩; have HB := hE0 hb1; clear hb1; go_wp2
 go_ret
 exact ⟨rfl, HB.out⟩
theorem ak5 (h : Ar w 79 g base cap A c bs) (hb : base <= 4611686018427387904) (n : Nat) (hn : bs.length = n) (hl : n <= 16384) (p k f : Nat) (hk : abf bs (p : Int) = (k : Int)) (hf : aae bs (8 + 8 * k) = f) (hfp : f = p) :
 Calls Tryz.prog 82 #[.pointer (some ⟨g, 0, none⟩), .int .i64 (p : Int)] w fun e w' => e = .returned (aaz false 3) /\ Below w.heap.size w w' := by
 obtain ⟨p184, p32, k22⟩ := abj hk; have hfl : f < 18446744073709551616 := by rw [<- hf]; exact aao _ _
 have HF := hE0 (abc h hb (by omega) (p : Int) (by omega) k hk); have HFA := hE0 (fun W => aaV W k k22); have HNF := hE0 (fun W (hB : Below w.heap.size w W) => aak (h.below hB) hb (by omega) (8 + 8 * (k : Int)) (8 + 8 * k) (by omega) (by omega) f hf); have hp2 : p + 32 <= n := by omega
 have hp3 : 184 <= p := by omega
 have s1 : ((f : Int) == (p : Int)) = true := by rw [beq_iff_eq]; omega
 clear h hk hf hn hfp; go_enter Tryz.func82, Tryz.ntmps82
 go_wp2_with fail
 with_reducible refine HF.out.mono ?_
 rintro e w1 ⟨rfl, hb1⟩; have HB := hE0 hb1; clear hb1 HF; go_wp2_with fail
 refine (HFA.out _).mono ?_; rintro e w9 ⟨rfl, rfl⟩; go_wp2_with fail
 refine (HNF.out _ HB.out).mono ?_; rintro e w9 ⟨rfl, rfl⟩; clear HFA HNF; go_wp2
 go_ret
 exact ⟨rfl, HB.out⟩
theorem ajT (h : Ar w 79 g base cap A c bs) (hb : base <= 4611686018427387904) (n : Nat) (hn : bs.length = n) (hl : n <= 16384) (p k f : Nat) (hk : abf bs (p : Int) = (k : Int)) (hf : aae bs (8 + 8 * k) = f) (hfp : f ≠ p) (hf0 : f ≠ 0) (hm : aat bs f (k : Int) = false) :
 Calls Tryz.prog 82 #[.pointer (some ⟨g, 0, none⟩), .int .i64 (p : Int)] w fun e w' => e = .returned (aaz false 3) /\ Below w.heap.size w w' := by
 obtain ⟨p184, p32, k22⟩ := abj hk; have hfl : f < 18446744073709551616 := by rw [<- hf]; exact aao _ _
 have HF := hE0 (abc h hb (by omega) (p : Int) (by omega) k hk); have HFA := hE0 (fun W => aaV W k k22); have HNF := hE0 (fun W (hB : Below w.heap.size w W) => aak (h.below hB) hb (by omega) (8 + 8 * (k : Int)) (8 + 8 * k) (by omega) (by omega) f hf); have hp2 : p + 32 <= n := by omega
 have hp3 : 184 <= p := by omega
 have HM := hE0 (fun W (hB : Below w.heap.size w W) => ac9 (h.below hB) hb (by omega) k f k22 hfl _ hm); have s1 : ((f : Int) == (p : Int)) = false := by rw [beq_eq_false_iff_ne]; omega
 have s2 : ((f : Int) != 0) = true := by rw [bne_iff_ne]; omega
 clear h hk hf hn hm; go_enter Tryz.func82, Tryz.ntmps82
 go_wp2_with fail
 with_reducible refine HF.out.mono ?_
 rintro e w1 ⟨rfl, hb1⟩; have HB := hE0 hb1; clear hb1 HF; go_wp2_with fail
 refine (HFA.out _).mono ?_; rintro e w9 ⟨rfl, rfl⟩; go_wp2_with fail
 refine (HNF.out _ HB.out).mono ?_; rintro e w9 ⟨rfl, rfl⟩; clear HFA HNF; go_wp2_with fail
 refine (HM.out _ HB.out).mono ?_; rintro e w2 ⟨rfl, hb2⟩; have HB2 := hE0 (HB.out.trans (hb2.mono HB.out.size)); clear hb2 HM HB; go_wp2
 go_ret
 exact ⟨rfl, HB2.out⟩
theorem ajU (h : Ar w 79 g base cap A c bs) (hb : base <= 4611686018427387904) (n : Nat) (hn : bs.length = n) (hl : n <= 16384) (p k f : Nat) (hk : abf bs (p : Int) = (k : Int)) (hf : aae bs (8 + 8 * k) = f) (hf0 : f = 0) :
 Calls Tryz.prog 82 #[.pointer (some ⟨g, 0, none⟩), .int .i64 (p : Int)] w fun e w' => e = .returned (aaz true 3) /\ Became 79 g base cap A (abS (lyN (lyN (lyN bs (p + 8) f) (p + 16) 0) (8 + 8 * k) p) k) w w' := by
 obtain ⟨p184, p32, k22⟩ := abj hk; have hfl : f < 18446744073709551616 := by rw [<- hf]; exact aao _ _
 have HF := hE0 (abc h hb (by omega) (p : Int) (by omega) k hk); have HFA := hE0 (fun W => aaV W k k22); have HNF := hE0 (fun W (hB : Below w.heap.size w W) => aak (h.below hB) hb (by omega) (8 + 8 * (k : Int)) (8 + 8 * k) (by omega) (by omega) f hf); have hp2 : p + 32 <= n := by omega
 have hp3 : 184 <= p := by omega
 have s1 : ((f : Int) == (p : Int)) = false := by rw [beq_eq_false_iff_ne]; omega
 have s2 : ((f : Int) != 0) = false := by subst hf0; rfl
 have HBO := hE0 (fun W (hB : Below w.heap.size w W) => abF h hB); obtain ⟨b1, hb1⟩ : ∃ b, lyN bs (p + 8) f = b := ⟨_, rfl⟩; have nb1 : b1.length = n := by rw [<- hb1, aal _ _ _ (by omega)]; exact hn
 have HS1 := fun W (hB : Became 79 g base cap A bs w W) => aa4 hB hb (by omega) ((p : Int) + 8) (p + 8) (by omega) (by omega) f hfl; rw [hb1] at HS1 ⊢; have HS1 := hE0 HS1; obtain ⟨b2, hb2⟩ : ∃ b, lyN b1 (p + 16) 0 = b := ⟨_, rfl⟩; have nb2 : b2.length = n := by rw [<- hb2, aal _ _ _ (by omega)]; exact nb1
 have HS2 := fun W (hB : Became 79 g base cap A b1 w W) => aa4 hB hb (by omega) ((p : Int) + 16) (p + 16) (by omega) (by omega) 0 (by omega); rw [hb2] at HS2 ⊢; have HS2 := hE0 HS2; have HSF := hE0 (fun W (hB : Became 79 g base cap A b2 w W) => abu hB hb n nb2 hl (by omega) k k22 p (by omega)); clear hb1 nb1 hb2 nb2; clear h hk hf hn hf0; go_enter Tryz.func82, Tryz.ntmps82
 go_wp2_with fail
 with_reducible refine HF.out.mono ?_
 rintro e w1 ⟨rfl, hb1⟩; have HB := hE0 hb1; clear hb1 HF; go_wp2_with fail
 refine (HFA.out _).mono ?_; rintro e w9 ⟨rfl, rfl⟩; go_wp2_with fail
 refine (HNF.out _ HB.out).mono ?_; rintro e w9 ⟨rfl, rfl⟩; clear HFA HNF; have G0 := hE0 (HBO.out _ HB.out); clear HBO HB; go_wp2_with fail
 refine (HS1.out _ G0.out).mono ?_; rintro e x1 ⟨rfl, bb⟩; have G1 := hE0 bb; clear bb HS1 G0; go_wp2_with fail
 refine (HS2.out _ G1.out).mono ?_; rintro e x2 ⟨rfl, bb⟩; have G2 := hE0 bb; clear bb HS2 G1; go_wp2_with fail
 refine (HSF.out _ G2.out).mono ?_; rintro e x9 ⟨rfl, bb⟩; have G9 := hE0 bb; clear bb HSF G2; go_wp2
 go_ret
 exact ⟨rfl, G9.out⟩
theorem aij (h : Ar w 79 g base cap A c bs) (hb : base <= 4611686018427387904) (n : Nat) (hn : bs.length = n) (hl : n <= 16384) (p k f : Nat) (hk : abf bs (p : Int) = (k : Int)) (hf : aae bs (8 + 8 * k) = f) (hfp : f ≠ p) (hf0 : f ≠ 0) (hm : aat bs f (k : Int) = true) :
 Calls Tryz.prog 82 #[.pointer (some ⟨g, 0, none⟩), .int .i64 (p : Int)] w fun e w' => e = .returned (aaz true 3) /\ Became 79 g base cap A (abS (lyN (lyN (lyN (lyN bs (p + 8) f) (p + 16) 0) (f + 16) p) (8 + 8 * k) p) k) w w' := by
 obtain ⟨p184, p32, k22⟩ := abj hk; have hfl : f < 18446744073709551616 := by rw [<- hf]; exact aao _ _
 have HF := hE0 (abc h hb (by omega) (p : Int) (by omega) k hk); have HFA := hE0 (fun W => aaV W k k22); have HNF := hE0 (fun W (hB : Below w.heap.size w W) => aak (h.below hB) hb (by omega) (8 + 8 * (k : Int)) (8 + 8 * k) (by omega) (by omega) f hf); have hp2 : p + 32 <= n := by omega
 have hp3 : 184 <= p := by omega
 have HM := hE0 (fun W (hB : Below w.heap.size w W) => ac9 (h.below hB) hb (by omega) k f k22 hfl _ hm); have s1 : ((f : Int) == (p : Int)) = false := by rw [beq_eq_false_iff_ne]; omega
 have s2 : ((f : Int) != 0) = true := by rw [bne_iff_ne]; omega
 have hfin := aaZ hm; have hf16 : f + 16 + 8 <= n := by omega
 have hf1 : f <= 16384 := by omega
 have HBO := hE0 (fun W (hB : Below w.heap.size w W) => abF h hB); obtain ⟨b1, hb1⟩ : ∃ b, lyN bs (p + 8) f = b := ⟨_, rfl⟩; have nb1 : b1.length = n := by rw [<- hb1, aal _ _ _ (by omega)]; exact hn
 have HS1 := fun W (hB : Became 79 g base cap A bs w W) => aa4 hB hb (by omega) ((p : Int) + 8) (p + 8) (by omega) (by omega) f hfl; rw [hb1] at HS1 ⊢; have HS1 := hE0 HS1; obtain ⟨b2, hb2⟩ : ∃ b, lyN b1 (p + 16) 0 = b := ⟨_, rfl⟩; have nb2 : b2.length = n := by rw [<- hb2, aal _ _ _ (by omega)]; exact nb1
 have HS2 := fun W (hB : Became 79 g base cap A b1 w W) => aa4 hB hb (by omega) ((p : Int) + 16) (p + 16) (by omega) (by omega) 0 (by omega); rw [hb2] at HS2 ⊢; have HS2 := hE0 HS2; obtain ⟨b3, hb3⟩ : ∃ b, lyN b2 (f + 16) p = b := ⟨_, rfl⟩; have nb3 : b3.length = n := by rw [<- hb3, aal _ _ _ (by omega)]; exact nb2
 have HS3 := fun W (hB : Became 79 g base cap A b2 w W) => aa4 hB hb (by omega) ((f : Int) + 16) (f + 16) (by omega) (by omega) p (by omega); rw [hb3] at HS3 ⊢; have HS3 := hE0 HS3; have HSF := hE0 (fun W (hB : Became 79 g base cap A b3 w W) => abu hB hb n nb3 hl (by omega) k k22 p (by omega)); clear hb1 nb1 hb2 nb2 hb3 nb3; clear h hk hf hn hm; go_enter Tryz.func82, Tryz.ntmps82
 go_wp2_with fail
 with_reducible refine HF.out.mono ?_
 rintro e w1 ⟨rfl, hb1⟩; have HB := hE0 hb1; clear hb1 HF; go_wp2_with fail
 refine (HFA.out _).mono ?_; rintro e w9 ⟨rfl, rfl⟩; go_wp2_with fail
 refine (HNF.out _ HB.out).mono ?_; rintro e w9 ⟨rfl, rfl⟩; clear HFA HNF; go_wp2_with fail
 refine (HM.out _ HB.out).mono ?_; rintro e w2 ⟨rfl, hb2⟩; have HB2 := hE0 (HB.out.trans (hb2.mono HB.out.size)); clear hb2 HM HB; have G0 := hE0 (HBO.out _ HB2.out); clear HBO HB2; go_wp2_with fail
 refine (HS1.out _ G0.out).mono ?_; rintro e x1 ⟨rfl, bb⟩; have G1 := hE0 bb; clear bb HS1 G0; go_wp2_with fail
 refine (HS2.out _ G1.out).mono ?_; rintro e x2 ⟨rfl, bb⟩; have G2 := hE0 bb; clear bb HS2 G1; go_wp2_with fail
 refine (HS3.out _ G2.out).mono ?_; rintro e x3 ⟨rfl, bb⟩; have G3 := hE0 bb; clear bb HS3 G2; go_wp2_with fail
 refine (HSF.out _ G3.out).mono ?_; rintro e x9 ⟨rfl, bb⟩; have G9 := hE0 bb; clear bb HSF G3; go_wp2
 go_ret
 exact ⟨rfl, G9.out⟩
end
theorem aqS : aqV := by
 intro w g base cap c A bs o y h hb hl ho hy; subst hy; rcases adS bs o with hk | ⟨k, hk⟩
 · have e : afI bs o = none := by unfold afI; rw [if_pos hk]
   rw [e]; exact aoA h hb _ rfl hl o ho hk
 · obtain ⟨p184, p32, k22⟩ := abj hk; obtain ⟨p, rfl⟩ : ∃ p : Nat, o = (p : Int) := ⟨o.toNat, by omega⟩; obtain ⟨f, hf⟩ := nmE (aae bs (8 + 8 * k)); have e : afI bs (p : Int) = if (f : Int) = (p : Int) \/ (f ≠ 0 /\ aat bs f (k : Int) = false) then none else some (abS (lyN (if f ≠ 0 then lyN (lyN (lyN bs (p + 8) f) (p + 16) 0) (f + 16) p else lyN (lyN bs (p + 8) f) (p + 16) 0) (8 + 8 * k) p) k) := by
    unfold afI; rw [hk, if_neg (by omega)]; simp only [Int.toNat_natCast, hf]
   rw [e]; by_cases hfp : f = p
   · rw [if_pos (.inl (by omega))]; exact ak5 h hb _ rfl hl p k f hk hf hfp
   · by_cases hf0 : f = 0
     · rw [if_neg (by omega), if_neg (by omega)]; exact ajU h hb _ rfl hl p k f hk hf hf0
     · cases hm : aat bs f (k : Int) with
       | false =>
        rw [if_pos (.inr ⟨hf0, rfl⟩)]; exact ajT h hb _ rfl hl p k f hk hf hfp hf0 hm
       | true =>
        rw [if_neg (fun h1 => h1.elim (fun h2 => hfp (by omega)) (fun h2 => by cases h2.2)), if_pos hf0]; exact aij h hb _ rfl hl p k f hk hf hfp hf0 hm
theorem abH {bs : List UInt8} {k v j u : Nat} (h : abC bs k v j u = true) : aat bs v (k : Int) = true := by
 unfold abC at h; rw [Bool.and_eq_true] at h; exact h.1
section
variable {w : World} {g base cap c : Nat} {A : Option Addr} {bs : List UInt8}
theorem amw (h : Ar w 79 g base cap A c bs) (hb : base <= 4611686018427387904) (n : Nat) (hn : bs.length = n) (hl : n <= 16384) (o : Int) (ho : -9223372036854775808 <= o /\ o <= 9223372036854775807) (hk : abf bs o < 0) :
 Calls Tryz.prog 134 #[.pointer (some ⟨g, 0, none⟩), .int .i64 o] w fun e w' => e = .returned (aaz false 3) /\ Below w.heap.size w w' := by
 have HF := hE0 (agz h hb (by omega) o ho hk); clear h hk hn; go_enter Tryz.func134, Tryz.ntmps134
 go_wp2_with fail
 with_reducible refine HF.out.mono ?_
 rintro e w1 ⟨rfl, hb1⟩; have HB := hE0 hb1; clear hb1; go_wp2
 go_ret
 exact ⟨rfl, HB.out⟩
theorem aik (h : Ar w 79 g base cap A c bs) (hb : base <= 4611686018427387904) (n : Nat) (hn : bs.length = n) (hl : n <= 16384) (q k f m p : Nat) (hk : abf bs (q : Int) = (k : Int)) (hf : aae bs (8 + 8 * k) = f) (hm : aae bs (q + 8) = m) (hp : aae bs (q + 16) = p) (hp0 : p = 0) (hfq : f ≠ q) :
 Calls Tryz.prog 134 #[.pointer (some ⟨g, 0, none⟩), .int .i64 (q : Int)] w fun e w' => e = .returned (aaz false 3) /\ Below w.heap.size w w' := by
 obtain ⟨q184, q32, k22⟩ := abj hk; have hfl : f < 18446744073709551616 := by rw [<- hf]; exact aao _ _
 have hml : m < 18446744073709551616 := by rw [<- hm]; exact aao _ _
 have hpl : p < 18446744073709551616 := by rw [<- hp]; exact aao _ _
 have HF := hE0 (abc h hb (by omega) (q : Int) (by omega) k hk); have HFA := hE0 (fun W => aaV W k k22); have HNF := hE0 (fun W (hB : Below w.heap.size w W) => aak (h.below hB) hb (by omega) (8 + 8 * (k : Int)) (8 + 8 * k) (by omega) (by omega) f hf); have HNM := hE0 (fun W (hB : Below w.heap.size w W) => aak (h.below hB) hb (by omega) ((q : Int) + 8) (q + 8) (by omega) (by omega) m hm); have HNP := hE0 (fun W (hB : Below w.heap.size w W) => aak (h.below hB) hb (by omega) ((q : Int) + 16) (q + 16) (by omega) (by omega) p hp); have hq2 : q + 32 <= n := by omega
 have hq3 : 184 <= q := by omega
 have s1 : ((p : Int) == 0) = true := by subst hp0; rfl
 have s1b : ((p : Int) != 0) = false := by subst hp0; rfl
 have s2 : ((f : Int) != (q : Int)) = true := by rw [bne_iff_ne]; omega
 clear h hk hf hn hm hp hp0; go_enter Tryz.func134, Tryz.ntmps134
 go_wp2_with fail
 with_reducible refine HF.out.mono ?_
 rintro e w1 ⟨rfl, hb1⟩; have HB := hE0 hb1; clear hb1 HF; go_wp2_with fail
 refine (HFA.out _).mono ?_; rintro e w9 ⟨rfl, rfl⟩; go_wp2_with fail
 refine (HNF.out _ HB.out).mono ?_; rintro e w9 ⟨rfl, rfl⟩; go_wp2_with fail
 refine (HNM.out _ HB.out).mono ?_; rintro e w9 ⟨rfl, rfl⟩; go_wp2_with fail
 refine (HNP.out _ HB.out).mono ?_; rintro e w9 ⟨rfl, rfl⟩; clear HFA HNF HNM HNP; go_wp2
 go_ret
 exact ⟨rfl, HB.out⟩
theorem ajV (h : Ar w 79 g base cap A c bs) (hb : base <= 4611686018427387904) (n : Nat) (hn : bs.length = n) (hl : n <= 16384) (q k f m p : Nat) (hk : abf bs (q : Int) = (k : Int)) (hf : aae bs (8 + 8 * k) = f) (hm : aae bs (q + 8) = m) (hp : aae bs (q + 16) = p) (hp0 : p ≠ 0) (hpm : abC bs k p 8 q = false) :
 Calls Tryz.prog 134 #[.pointer (some ⟨g, 0, none⟩), .int .i64 (q : Int)] w fun e w' => e = .returned (aaz false 3) /\ Below w.heap.size w w' := by
 obtain ⟨q184, q32, k22⟩ := abj hk; have hfl : f < 18446744073709551616 := by rw [<- hf]; exact aao _ _
 have hml : m < 18446744073709551616 := by rw [<- hm]; exact aao _ _
 have hpl : p < 18446744073709551616 := by rw [<- hp]; exact aao _ _
 have HF := hE0 (abc h hb (by omega) (q : Int) (by omega) k hk); have HFA := hE0 (fun W => aaV W k k22); have HNF := hE0 (fun W (hB : Below w.heap.size w W) => aak (h.below hB) hb (by omega) (8 + 8 * (k : Int)) (8 + 8 * k) (by omega) (by omega) f hf); have HNM := hE0 (fun W (hB : Below w.heap.size w W) => aak (h.below hB) hb (by omega) ((q : Int) + 8) (q + 8) (by omega) (by omega) m hm); have HNP := hE0 (fun W (hB : Below w.heap.size w W) => aak (h.below hB) hb (by omega) ((q : Int) + 16) (q + 16) (by omega) (by omega) p hp); have hq2 : q + 32 <= n := by omega
 have hq3 : 184 <= q := by omega
 have s1 : ((p : Int) == 0) = false := by rw [beq_eq_false_iff_ne]; omega
 have s1b : ((p : Int) != 0) = true := by rw [bne_iff_ne]; omega
 have HPM := hE0 (fun W (hB : Below w.heap.size w W) => abQ (h.below hB) hb (by omega) k p 8 q k22 hpl (by omega) _ hpm); clear h hk hf hn hm hp hpm; go_enter Tryz.func134, Tryz.ntmps134
 go_wp2_with fail
 with_reducible refine HF.out.mono ?_
 rintro e w1 ⟨rfl, hb1⟩; have HB := hE0 hb1; clear hb1 HF; go_wp2_with fail
 refine (HFA.out _).mono ?_; rintro e w9 ⟨rfl, rfl⟩; go_wp2_with fail
 refine (HNF.out _ HB.out).mono ?_; rintro e w9 ⟨rfl, rfl⟩; go_wp2_with fail
 refine (HNM.out _ HB.out).mono ?_; rintro e w9 ⟨rfl, rfl⟩; go_wp2_with fail
 refine (HNP.out _ HB.out).mono ?_; rintro e w9 ⟨rfl, rfl⟩; clear HFA HNF HNM HNP; go_wp2_with fail
 refine (HPM.out _ HB.out).mono ?_; rintro e w2 ⟨rfl, hb2⟩; have HB2 := hE0 (HB.out.trans (hb2.mono HB.out.size)); clear hb2 HPM HB; go_wp2
 go_ret
 exact ⟨rfl, HB2.out⟩
theorem ail (h : Ar w 79 g base cap A c bs) (hb : base <= 4611686018427387904) (n : Nat) (hn : bs.length = n) (hl : n <= 16384) (q k f m p : Nat) (hk : abf bs (q : Int) = (k : Int)) (hf : aae bs (8 + 8 * k) = f) (hm : aae bs (q + 8) = m) (hp : aae bs (q + 16) = p) (hp0 : p = 0) (hfq : f = q) (hn0 : m ≠ 0) (hnm : abC bs k m 16 q = false) :
 Calls Tryz.prog 134 #[.pointer (some ⟨g, 0, none⟩), .int .i64 (q : Int)] w fun e w' => e = .returned (aaz false 3) /\ Below w.heap.size w w' := by
 obtain ⟨q184, q32, k22⟩ := abj hk; have hfl : f < 18446744073709551616 := by rw [<- hf]; exact aao _ _
 have hml : m < 18446744073709551616 := by rw [<- hm]; exact aao _ _
 have hpl : p < 18446744073709551616 := by rw [<- hp]; exact aao _ _
 have HF := hE0 (abc h hb (by omega) (q : Int) (by omega) k hk); have HFA := hE0 (fun W => aaV W k k22); have HNF := hE0 (fun W (hB : Below w.heap.size w W) => aak (h.below hB) hb (by omega) (8 + 8 * (k : Int)) (8 + 8 * k) (by omega) (by omega) f hf); have HNM := hE0 (fun W (hB : Below w.heap.size w W) => aak (h.below hB) hb (by omega) ((q : Int) + 8) (q + 8) (by omega) (by omega) m hm); have HNP := hE0 (fun W (hB : Below w.heap.size w W) => aak (h.below hB) hb (by omega) ((q : Int) + 16) (q + 16) (by omega) (by omega) p hp); have hq2 : q + 32 <= n := by omega
 have hq3 : 184 <= q := by omega
 have s1 : ((p : Int) == 0) = true := by subst hp0; rfl
 have s1b : ((p : Int) != 0) = false := by subst hp0; rfl
 have s2 : ((f : Int) != (q : Int)) = false := by rw [bne_eq_false_iff_eq]; omega
 have HNH := hE0 (fun W (hB : Below w.heap.size w W) => abQ (h.below hB) hb (by omega) k m 16 q k22 hml (by omega) _ hnm); have s3 : ((m : Int) != 0) = true := by rw [bne_iff_ne]; omega
 clear h hk hf hn hm hp hnm hp0 hfq; go_enter Tryz.func134, Tryz.ntmps134
 go_wp2_with fail
 with_reducible refine HF.out.mono ?_
 rintro e w1 ⟨rfl, hb1⟩; have HB := hE0 hb1; clear hb1 HF; go_wp2_with fail
 refine (HFA.out _).mono ?_; rintro e w9 ⟨rfl, rfl⟩; go_wp2_with fail
 refine (HNF.out _ HB.out).mono ?_; rintro e w9 ⟨rfl, rfl⟩; go_wp2_with fail
 refine (HNM.out _ HB.out).mono ?_; rintro e w9 ⟨rfl, rfl⟩; go_wp2_with fail
 refine (HNP.out _ HB.out).mono ?_; rintro e w9 ⟨rfl, rfl⟩; clear HFA HNF HNM HNP; go_wp2_with fail
 refine (HNH.out _ HB.out).mono ?_; rintro e w3 ⟨rfl, hb3⟩; have HB3 := hE0 (HB.out.trans (hb3.mono HB.out.size)); clear hb3 HNH HB; go_wp2
 go_ret
 exact ⟨rfl, HB3.out⟩
theorem aim (h : Ar w 79 g base cap A c bs) (hb : base <= 4611686018427387904) (n : Nat) (hn : bs.length = n) (hl : n <= 16384) (q k f m p : Nat) (hk : abf bs (q : Int) = (k : Int)) (hf : aae bs (8 + 8 * k) = f) (hm : aae bs (q + 8) = m) (hp : aae bs (q + 16) = p) (hp0 : p ≠ 0) (hpm : abC bs k p 8 q = true) (hn0 : m ≠ 0) (hnm : abC bs k m 16 q = false) :
 Calls Tryz.prog 134 #[.pointer (some ⟨g, 0, none⟩), .int .i64 (q : Int)] w fun e w' => e = .returned (aaz false 3) /\ Below w.heap.size w w' := by
 obtain ⟨q184, q32, k22⟩ := abj hk; have hfl : f < 18446744073709551616 := by rw [<- hf]; exact aao _ _
 have hml : m < 18446744073709551616 := by rw [<- hm]; exact aao _ _
 have hpl : p < 18446744073709551616 := by rw [<- hp]; exact aao _ _
 have HF := hE0 (abc h hb (by omega) (q : Int) (by omega) k hk); have HFA := hE0 (fun W => aaV W k k22); have HNF := hE0 (fun W (hB : Below w.heap.size w W) => aak (h.below hB) hb (by omega) (8 + 8 * (k : Int)) (8 + 8 * k) (by omega) (by omega) f hf); have HNM := hE0 (fun W (hB : Below w.heap.size w W) => aak (h.below hB) hb (by omega) ((q : Int) + 8) (q + 8) (by omega) (by omega) m hm); have HNP := hE0 (fun W (hB : Below w.heap.size w W) => aak (h.below hB) hb (by omega) ((q : Int) + 16) (q + 16) (by omega) (by omega) p hp); have hq2 : q + 32 <= n := by omega
 have hq3 : 184 <= q := by omega
 have s1 : ((p : Int) == 0) = false := by rw [beq_eq_false_iff_ne]; omega
 have s1b : ((p : Int) != 0) = true := by rw [bne_iff_ne]; omega
 have HPM := hE0 (fun W (hB : Below w.heap.size w W) => abQ (h.below hB) hb (by omega) k p 8 q k22 hpl (by omega) _ hpm); have HNH := hE0 (fun W (hB : Below w.heap.size w W) => abQ (h.below hB) hb (by omega) k m 16 q k22 hml (by omega) _ hnm); have s3 : ((m : Int) != 0) = true := by rw [bne_iff_ne]; omega
 clear h hk hf hn hm hp hpm hnm; go_enter Tryz.func134, Tryz.ntmps134
 go_wp2_with fail
 with_reducible refine HF.out.mono ?_
 rintro e w1 ⟨rfl, hb1⟩; have HB := hE0 hb1; clear hb1 HF; go_wp2_with fail
 refine (HFA.out _).mono ?_; rintro e w9 ⟨rfl, rfl⟩; go_wp2_with fail
 refine (HNF.out _ HB.out).mono ?_; rintro e w9 ⟨rfl, rfl⟩; go_wp2_with fail
 refine (HNM.out _ HB.out).mono ?_; rintro e w9 ⟨rfl, rfl⟩; go_wp2_with fail
 refine (HNP.out _ HB.out).mono ?_; rintro e w9 ⟨rfl, rfl⟩; clear HFA HNF HNM HNP; go_wp2_with fail
 refine (HPM.out _ HB.out).mono ?_; rintro e w2 ⟨rfl, hb2⟩; have HB2 := hE0 (HB.out.trans (hb2.mono HB.out.size)); clear hb2 HPM HB; go_wp2_with fail
 refine (HNH.out _ HB2.out).mono ?_; rintro e w3 ⟨rfl, hb3⟩; have HB3 := hE0 (HB2.out.trans (hb3.mono HB2.out.size)); clear hb3 HNH HB2; go_wp2
 go_ret
 exact ⟨rfl, HB3.out⟩
theorem ak6 (h : Ar w 79 g base cap A c bs) (hb : base <= 4611686018427387904) (n : Nat) (hn : bs.length = n) (hl : n <= 16384) (q k f m p : Nat) (hk : abf bs (q : Int) = (k : Int)) (hf : aae bs (8 + 8 * k) = f) (hm : aae bs (q + 8) = m) (hp : aae bs (q + 16) = p) (hp0 : p = 0) (hfq : f = q) (hn0 : m = 0) :
 Calls Tryz.prog 134 #[.pointer (some ⟨g, 0, none⟩), .int .i64 (q : Int)] w fun e w' => e = .returned (aaz true 3) /\ Became 79 g base cap A (abS (lyN bs (8 + 8 * k) m) k) w w' := by
 obtain ⟨q184, q32, k22⟩ := abj hk; have hfl : f < 18446744073709551616 := by rw [<- hf]; exact aao _ _
 have hml : m < 18446744073709551616 := by rw [<- hm]; exact aao _ _
 have hpl : p < 18446744073709551616 := by rw [<- hp]; exact aao _ _
 have HF := hE0 (abc h hb (by omega) (q : Int) (by omega) k hk); have HFA := hE0 (fun W => aaV W k k22); have HNF := hE0 (fun W (hB : Below w.heap.size w W) => aak (h.below hB) hb (by omega) (8 + 8 * (k : Int)) (8 + 8 * k) (by omega) (by omega) f hf); have HNM := hE0 (fun W (hB : Below w.heap.size w W) => aak (h.below hB) hb (by omega) ((q : Int) + 8) (q + 8) (by omega) (by omega) m hm); have HNP := hE0 (fun W (hB : Below w.heap.size w W) => aak (h.below hB) hb (by omega) ((q : Int) + 16) (q + 16) (by omega) (by omega) p hp); have hq2 : q + 32 <= n := by omega
 have hq3 : 184 <= q := by omega
 have s1 : ((p : Int) == 0) = true := by subst hp0; rfl
 have s1b : ((p : Int) != 0) = false := by subst hp0; rfl
 have s2 : ((f : Int) != (q : Int)) = false := by rw [bne_eq_false_iff_eq]; omega
 have s3 : ((m : Int) != 0) = false := by subst hn0; rfl
 have s4 : ((f : Int) == (q : Int)) = true := by rw [beq_iff_eq]; omega
 have HBO := hE0 (fun W (hB : Below w.heap.size w W) => abF h hB); have HSF := hE0 (fun W (hB : Became 79 g base cap A bs w W) => abu hB hb n hn hl (by omega) k k22 m (by omega)); clear h hk hf hn hm hp hp0 hfq hn0; go_enter Tryz.func134, Tryz.ntmps134
 go_wp2_with fail
 with_reducible refine HF.out.mono ?_
 rintro e w1 ⟨rfl, hb1⟩; have HB := hE0 hb1; clear hb1 HF; go_wp2_with fail
 refine (HFA.out _).mono ?_; rintro e w9 ⟨rfl, rfl⟩; go_wp2_with fail
 refine (HNF.out _ HB.out).mono ?_; rintro e w9 ⟨rfl, rfl⟩; go_wp2_with fail
 refine (HNM.out _ HB.out).mono ?_; rintro e w9 ⟨rfl, rfl⟩; go_wp2_with fail
 refine (HNP.out _ HB.out).mono ?_; rintro e w9 ⟨rfl, rfl⟩; clear HFA HNF HNM HNP; have G0 := hE0 (HBO.out _ HB.out); clear HBO HB; go_wp2_with fail
 refine (HSF.out _ G0.out).mono ?_; rintro e x9 ⟨rfl, bb⟩; have G9 := hE0 bb; clear bb HSF G0; go_wp2
 go_ret
 exact ⟨rfl, G9.out⟩
theorem ak7 (h : Ar w 79 g base cap A c bs) (hb : base <= 4611686018427387904) (n : Nat) (hn : bs.length = n) (hl : n <= 16384) (q k f m p : Nat) (hk : abf bs (q : Int) = (k : Int)) (hf : aae bs (8 + 8 * k) = f) (hm : aae bs (q + 8) = m) (hp : aae bs (q + 16) = p) (hp0 : p = 0) (hfq : f = q) (hn0 : m ≠ 0) (hnm : abC bs k m 16 q = true) :
 Calls Tryz.prog 134 #[.pointer (some ⟨g, 0, none⟩), .int .i64 (q : Int)] w fun e w' => e = .returned (aaz true 3) /\ Became 79 g base cap A (abS (lyN (lyN bs (m + 16) p) (8 + 8 * k) m) k) w w' := by
 obtain ⟨q184, q32, k22⟩ := abj hk; have hfl : f < 18446744073709551616 := by rw [<- hf]; exact aao _ _
 have hml : m < 18446744073709551616 := by rw [<- hm]; exact aao _ _
 have hpl : p < 18446744073709551616 := by rw [<- hp]; exact aao _ _
 have HF := hE0 (abc h hb (by omega) (q : Int) (by omega) k hk); have HFA := hE0 (fun W => aaV W k k22); have HNF := hE0 (fun W (hB : Below w.heap.size w W) => aak (h.below hB) hb (by omega) (8 + 8 * (k : Int)) (8 + 8 * k) (by omega) (by omega) f hf); have HNM := hE0 (fun W (hB : Below w.heap.size w W) => aak (h.below hB) hb (by omega) ((q : Int) + 8) (q + 8) (by omega) (by omega) m hm); have HNP := hE0 (fun W (hB : Below w.heap.size w W) => aak (h.below hB) hb (by omega) ((q : Int) + 16) (q + 16) (by omega) (by omega) p hp); have hq2 : q + 32 <= n := by omega
 have hq3 : 184 <= q := by omega
 have s1 : ((p : Int) == 0) = true := by subst hp0; rfl
 have s1b : ((p : Int) != 0) = false := by subst hp0; rfl
 have s2 : ((f : Int) != (q : Int)) = false := by rw [bne_eq_false_iff_eq]; omega
 have HNH := hE0 (fun W (hB : Below w.heap.size w W) => abQ (h.below hB) hb (by omega) k m 16 q k22 hml (by omega) _ hnm); have s3 : ((m : Int) != 0) = true := by rw [bne_iff_ne]; omega
 have s4 : ((f : Int) == (q : Int)) = true := by rw [beq_iff_eq]; omega
 have hnin := aaZ (abH hnm); have hn16 : m + 32 <= n := by omega
 have HBO := hE0 (fun W (hB : Below w.heap.size w W) => abF h hB); obtain ⟨b1, hb1⟩ : ∃ b, lyN bs (m + 16) p = b := ⟨_, rfl⟩; have nb1 : b1.length = n := by rw [<- hb1, aal _ _ _ (by omega)]; exact hn
 have HS1 := fun W (hB : Became 79 g base cap A bs w W) => aa4 hB hb (by omega) ((m : Int) + 16) (m + 16) (by omega) (by omega) p hpl; rw [hb1] at HS1 ⊢; have HS1 := hE0 HS1; have HSF := hE0 (fun W (hB : Became 79 g base cap A b1 w W) => abu hB hb n nb1 hl (by omega) k k22 m (by omega)); clear hb1 nb1; clear h hk hf hn hm hp hnm hp0 hfq; go_enter Tryz.func134, Tryz.ntmps134
 go_wp2_with fail
 with_reducible refine HF.out.mono ?_
 rintro e w1 ⟨rfl, hb1⟩; have HB := hE0 hb1; clear hb1 HF; go_wp2_with fail
 refine (HFA.out _).mono ?_; rintro e w9 ⟨rfl, rfl⟩; go_wp2_with fail
 refine (HNF.out _ HB.out).mono ?_; rintro e w9 ⟨rfl, rfl⟩; go_wp2_with fail
 refine (HNM.out _ HB.out).mono ?_; rintro e w9 ⟨rfl, rfl⟩; go_wp2_with fail
 refine (HNP.out _ HB.out).mono ?_; rintro e w9 ⟨rfl, rfl⟩; clear HFA HNF HNM HNP; go_wp2_with fail
 refine (HNH.out _ HB.out).mono ?_; rintro e w3 ⟨rfl, hb3⟩; have HB3 := hE0 (HB.out.trans (hb3.mono HB.out.size)); clear hb3 HNH HB; have G0 := hE0 (HBO.out _ HB3.out); clear HBO HB3; go_wp2_with fail
 refine (HS1.out _ G0.out).mono ?_; rintro e x1 ⟨rfl, bb⟩; have G1 := hE0 bb; clear bb HS1 G0; go_wp2_with fail
 refine (HSF.out _ G1.out).mono ?_; rintro e x9 ⟨rfl, bb⟩; have G9 := hE0 bb; clear bb HSF G1; go_wp2
 go_ret
 exact ⟨rfl, G9.out⟩
theorem ak8 (h : Ar w 79 g base cap A c bs) (hb : base <= 4611686018427387904) (n : Nat) (hn : bs.length = n) (hl : n <= 16384) (q k f m p : Nat) (hk : abf bs (q : Int) = (k : Int)) (hf : aae bs (8 + 8 * k) = f) (hm : aae bs (q + 8) = m) (hp : aae bs (q + 16) = p) (hp0 : p ≠ 0) (hpm : abC bs k p 8 q = true) (hn0 : m = 0) (hfq : f = q) :
 Calls Tryz.prog 134 #[.pointer (some ⟨g, 0, none⟩), .int .i64 (q : Int)] w fun e w' => e = .returned (aaz true 3) /\ Became 79 g base cap A (abS (lyN (lyN bs (p + 8) m) (8 + 8 * k) m) k) w w' := by
 obtain ⟨q184, q32, k22⟩ := abj hk; have hfl : f < 18446744073709551616 := by rw [<- hf]; exact aao _ _
 have hml : m < 18446744073709551616 := by rw [<- hm]; exact aao _ _
 have hpl : p < 18446744073709551616 := by rw [<- hp]; exact aao _ _
 have HF := hE0 (abc h hb (by omega) (q : Int) (by omega) k hk); have HFA := hE0 (fun W => aaV W k k22); have HNF := hE0 (fun W (hB : Below w.heap.size w W) => aak (h.below hB) hb (by omega) (8 + 8 * (k : Int)) (8 + 8 * k) (by omega) (by omega) f hf); have HNM := hE0 (fun W (hB : Below w.heap.size w W) => aak (h.below hB) hb (by omega) ((q : Int) + 8) (q + 8) (by omega) (by omega) m hm); have HNP := hE0 (fun W (hB : Below w.heap.size w W) => aak (h.below hB) hb (by omega) ((q : Int) + 16) (q + 16) (by omega) (by omega) p hp); have hq2 : q + 32 <= n := by omega
 have hq3 : 184 <= q := by omega
 have s1 : ((p : Int) == 0) = false := by rw [beq_eq_false_iff_ne]; omega
 have s1b : ((p : Int) != 0) = true := by rw [bne_iff_ne]; omega
 have HPM := hE0 (fun W (hB : Below w.heap.size w W) => abQ (h.below hB) hb (by omega) k p 8 q k22 hpl (by omega) _ hpm); have s3 : ((m : Int) != 0) = false := by subst hn0; rfl
 have s4 : ((f : Int) == (q : Int)) = true := by rw [beq_iff_eq]; omega
 have hpin := aaZ (abH hpm); have hp8 : p + 32 <= n := by omega
 have HBO := hE0 (fun W (hB : Below w.heap.size w W) => abF h hB); obtain ⟨b1, hb1⟩ : ∃ b, lyN bs (p + 8) m = b := ⟨_, rfl⟩; have nb1 : b1.length = n := by rw [<- hb1, aal _ _ _ (by omega)]; exact hn
 have HS1 := fun W (hB : Became 79 g base cap A bs w W) => aa4 hB hb (by omega) ((p : Int) + 8) (p + 8) (by omega) (by omega) m hml; rw [hb1] at HS1 ⊢; have HS1 := hE0 HS1; have HSF := hE0 (fun W (hB : Became 79 g base cap A b1 w W) => abu hB hb n nb1 hl (by omega) k k22 m (by omega)); clear hb1 nb1; clear h hk hf hn hm hp hpm hfq hn0; go_enter Tryz.func134, Tryz.ntmps134
 go_wp2_with fail
 with_reducible refine HF.out.mono ?_
 rintro e w1 ⟨rfl, hb1⟩; have HB := hE0 hb1; clear hb1 HF; go_wp2_with fail
 refine (HFA.out _).mono ?_; rintro e w9 ⟨rfl, rfl⟩; go_wp2_with fail
 refine (HNF.out _ HB.out).mono ?_; rintro e w9 ⟨rfl, rfl⟩; go_wp2_with fail
 refine (HNM.out _ HB.out).mono ?_; rintro e w9 ⟨rfl, rfl⟩; go_wp2_with fail
 refine (HNP.out _ HB.out).mono ?_; rintro e w9 ⟨rfl, rfl⟩; clear HFA HNF HNM HNP; go_wp2_with fail
 refine (HPM.out _ HB.out).mono ?_; rintro e w2 ⟨rfl, hb2⟩; have HB2 := hE0 (HB.out.trans (hb2.mono HB.out.size)); clear hb2 HPM HB; have G0 := hE0 (HBO.out _ HB2.out); clear HBO HB2; go_wp2_with fail
 refine (HS1.out _ G0.out).mono ?_; rintro e x1 ⟨rfl, bb⟩; have G1 := hE0 bb; clear bb HS1 G0; go_wp2_with fail
 refine (HSF.out _ G1.out).mono ?_; rintro e x9 ⟨rfl, bb⟩; have G9 := hE0 bb; clear bb HSF G1; go_wp2
 go_ret
 exact ⟨rfl, G9.out⟩
theorem ak9 (h : Ar w 79 g base cap A c bs) (hb : base <= 4611686018427387904) (n : Nat) (hn : bs.length = n) (hl : n <= 16384) (q k f m p : Nat) (hk : abf bs (q : Int) = (k : Int)) (hf : aae bs (8 + 8 * k) = f) (hm : aae bs (q + 8) = m) (hp : aae bs (q + 16) = p) (hp0 : p ≠ 0) (hpm : abC bs k p 8 q = true) (hn0 : m ≠ 0) (hnm : abC bs k m 16 q = true) (hfq : f = q) :
 Calls Tryz.prog 134 #[.pointer (some ⟨g, 0, none⟩), .int .i64 (q : Int)] w fun e w' => e = .returned (aaz true 3) /\ Became 79 g base cap A (abS (lyN (lyN (lyN bs (p + 8) m) (m + 16) p) (8 + 8 * k) m) k) w w' := by
 obtain ⟨q184, q32, k22⟩ := abj hk; have hfl : f < 18446744073709551616 := by rw [<- hf]; exact aao _ _
 have hml : m < 18446744073709551616 := by rw [<- hm]; exact aao _ _
 have hpl : p < 18446744073709551616 := by rw [<- hp]; exact aao _ _
 have HF := hE0 (abc h hb (by omega) (q : Int) (by omega) k hk); have HFA := hE0 (fun W => aaV W k k22); have HNF := hE0 (fun W (hB : Below w.heap.size w W) => aak (h.below hB) hb (by omega) (8 + 8 * (k : Int)) (8 + 8 * k) (by omega) (by omega) f hf); have HNM := hE0 (fun W (hB : Below w.heap.size w W) => aak (h.below hB) hb (by omega) ((q : Int) + 8) (q + 8) (by omega) (by omega) m hm); have HNP := hE0 (fun W (hB : Below w.heap.size w W) => aak (h.below hB) hb (by omega) ((q : Int) + 16) (q + 16) (by omega) (by omega) p hp); have hq2 : q + 32 <= n := by omega
 have hq3 : 184 <= q := by omega
 have s1 : ((p : Int) == 0) = false := by rw [beq_eq_false_iff_ne]; omega
 have s1b : ((p : Int) != 0) = true := by rw [bne_iff_ne]; omega
 have HPM := hE0 (fun W (hB : Below w.heap.size w W) => abQ (h.below hB) hb (by omega) k p 8 q k22 hpl (by omega) _ hpm); have HNH := hE0 (fun W (hB : Below w.heap.size w W) => abQ (h.below hB) hb (by omega) k m 16 q k22 hml (by omega) _ hnm); have s3 : ((m : Int) != 0) = true := by rw [bne_iff_ne]; omega
 have s4 : ((f : Int) == (q : Int)) = true := by rw [beq_iff_eq]; omega
 have hpin := aaZ (abH hpm); have hp8 : p + 32 <= n := by omega
 have hnin := aaZ (abH hnm); have hn16 : m + 32 <= n := by omega
 have HBO := hE0 (fun W (hB : Below w.heap.size w W) => abF h hB); obtain ⟨b1, hb1⟩ : ∃ b, lyN bs (p + 8) m = b := ⟨_, rfl⟩; have nb1 : b1.length = n := by rw [<- hb1, aal _ _ _ (by omega)]; exact hn
 have HS1 := fun W (hB : Became 79 g base cap A bs w W) => aa4 hB hb (by omega) ((p : Int) + 8) (p + 8) (by omega) (by omega) m hml; rw [hb1] at HS1 ⊢; have HS1 := hE0 HS1; obtain ⟨b2, hb2⟩ : ∃ b, lyN b1 (m + 16) p = b := ⟨_, rfl⟩; have nb2 : b2.length = n := by rw [<- hb2, aal _ _ _ (by omega)]; exact nb1
 have HS2 := fun W (hB : Became 79 g base cap A b1 w W) => aa4 hB hb (by omega) ((m : Int) + 16) (m + 16) (by omega) (by omega) p hpl; rw [hb2] at HS2 ⊢; have HS2 := hE0 HS2; have HSF := hE0 (fun W (hB : Became 79 g base cap A b2 w W) => abu hB hb n nb2 hl (by omega) k k22 m (by omega)); clear hb1 nb1 hb2 nb2; clear h hk hf hn hm hp hpm hnm hfq; go_enter Tryz.func134, Tryz.ntmps134
 go_wp2_with fail
 with_reducible refine HF.out.mono ?_
 rintro e w1 ⟨rfl, hb1⟩; have HB := hE0 hb1; clear hb1 HF; go_wp2_with fail
 refine (HFA.out _).mono ?_; rintro e w9 ⟨rfl, rfl⟩; go_wp2_with fail
 refine (HNF.out _ HB.out).mono ?_; rintro e w9 ⟨rfl, rfl⟩; go_wp2_with fail
 refine (HNM.out _ HB.out).mono ?_; rintro e w9 ⟨rfl, rfl⟩; go_wp2_with fail
 refine (HNP.out _ HB.out).mono ?_; rintro e w9 ⟨rfl, rfl⟩; clear HFA HNF HNM HNP; go_wp2_with fail
 refine (HPM.out _ HB.out).mono ?_; rintro e w2 ⟨rfl, hb2⟩; have HB2 := hE0 (HB.out.trans (hb2.mono HB.out.size)); clear hb2 HPM HB; go_wp2_with fail
 refine (HNH.out _ HB2.out).mono ?_; rintro e w3 ⟨rfl, hb3⟩; have HB3 := hE0 (HB2.out.trans (hb3.mono HB2.out.size)); clear hb3 HNH HB2; have G0 := hE0 (HBO.out _ HB3.out); clear HBO HB3; go_wp2_with fail
 refine (HS1.out _ G0.out).mono ?_; rintro e x1 ⟨rfl, bb⟩; have G1 := hE0 bb; clear bb HS1 G0; go_wp2_with fail
 refine (HS2.out _ G1.out).mono ?_; rintro e x2 ⟨rfl, bb⟩; have G2 := hE0 bb; clear bb HS2 G1; go_wp2_with fail
 refine (HSF.out _ G2.out).mono ?_; rintro e x9 ⟨rfl, bb⟩; have G9 := hE0 bb; clear bb HSF G2; go_wp2
 go_ret
 exact ⟨rfl, G9.out⟩
theorem ala (h : Ar w 79 g base cap A c bs) (hb : base <= 4611686018427387904) (n : Nat) (hn : bs.length = n) (hl : n <= 16384) (q k f m p : Nat) (hk : abf bs (q : Int) = (k : Int)) (hf : aae bs (8 + 8 * k) = f) (hm : aae bs (q + 8) = m) (hp : aae bs (q + 16) = p) (hp0 : p ≠ 0) (hpm : abC bs k p 8 q = true) (hn0 : m = 0) (hfq : f ≠ q) :
 Calls Tryz.prog 134 #[.pointer (some ⟨g, 0, none⟩), .int .i64 (q : Int)] w fun e w' => e = .returned (aaz true 3) /\ Became 79 g base cap A (abS (lyN (lyN bs (p + 8) m) (8 + 8 * k) f) k) w w' := by
 obtain ⟨q184, q32, k22⟩ := abj hk; have hfl : f < 18446744073709551616 := by rw [<- hf]; exact aao _ _
 have hml : m < 18446744073709551616 := by rw [<- hm]; exact aao _ _
 have hpl : p < 18446744073709551616 := by rw [<- hp]; exact aao _ _
 have HF := hE0 (abc h hb (by omega) (q : Int) (by omega) k hk); have HFA := hE0 (fun W => aaV W k k22); have HNF := hE0 (fun W (hB : Below w.heap.size w W) => aak (h.below hB) hb (by omega) (8 + 8 * (k : Int)) (8 + 8 * k) (by omega) (by omega) f hf); have HNM := hE0 (fun W (hB : Below w.heap.size w W) => aak (h.below hB) hb (by omega) ((q : Int) + 8) (q + 8) (by omega) (by omega) m hm); have HNP := hE0 (fun W (hB : Below w.heap.size w W) => aak (h.below hB) hb (by omega) ((q : Int) + 16) (q + 16) (by omega) (by omega) p hp); have hq2 : q + 32 <= n := by omega
 have hq3 : 184 <= q := by omega
 have s1 : ((p : Int) == 0) = false := by rw [beq_eq_false_iff_ne]; omega
 have s1b : ((p : Int) != 0) = true := by rw [bne_iff_ne]; omega
 have HPM := hE0 (fun W (hB : Below w.heap.size w W) => abQ (h.below hB) hb (by omega) k p 8 q k22 hpl (by omega) _ hpm); have s3 : ((m : Int) != 0) = false := by subst hn0; rfl
 have s4 : ((f : Int) == (q : Int)) = false := by rw [beq_eq_false_iff_ne]; omega
 have hpin := aaZ (abH hpm); have hp8 : p + 32 <= n := by omega
 have HBO := hE0 (fun W (hB : Below w.heap.size w W) => abF h hB); obtain ⟨b1, hb1⟩ : ∃ b, lyN bs (p + 8) m = b := ⟨_, rfl⟩; have nb1 : b1.length = n := by rw [<- hb1, aal _ _ _ (by omega)]; exact hn
 have HS1 := fun W (hB : Became 79 g base cap A bs w W) => aa4 hB hb (by omega) ((p : Int) + 8) (p + 8) (by omega) (by omega) m hml; rw [hb1] at HS1 ⊢; have HS1 := hE0 HS1; have HSF := hE0 (fun W (hB : Became 79 g base cap A b1 w W) => abu hB hb n nb1 hl (by omega) k k22 f (by omega)); clear hb1 nb1; clear h hk hf hn hm hp hpm hn0; go_enter Tryz.func134, Tryz.ntmps134
 go_wp2_with fail
 with_reducible refine HF.out.mono ?_
 rintro e w1 ⟨rfl, hb1⟩; have HB := hE0 hb1; clear hb1 HF; go_wp2_with fail
 refine (HFA.out _).mono ?_; rintro e w9 ⟨rfl, rfl⟩; go_wp2_with fail
 refine (HNF.out _ HB.out).mono ?_; rintro e w9 ⟨rfl, rfl⟩; go_wp2_with fail
 refine (HNM.out _ HB.out).mono ?_; rintro e w9 ⟨rfl, rfl⟩; go_wp2_with fail
 refine (HNP.out _ HB.out).mono ?_; rintro e w9 ⟨rfl, rfl⟩; clear HFA HNF HNM HNP; go_wp2_with fail
 refine (HPM.out _ HB.out).mono ?_; rintro e w2 ⟨rfl, hb2⟩; have HB2 := hE0 (HB.out.trans (hb2.mono HB.out.size)); clear hb2 HPM HB; have G0 := hE0 (HBO.out _ HB2.out); clear HBO HB2; go_wp2_with fail
 refine (HS1.out _ G0.out).mono ?_; rintro e x1 ⟨rfl, bb⟩; have G1 := hE0 bb; clear bb HS1 G0; go_wp2_with fail
 refine (HSF.out _ G1.out).mono ?_; rintro e x9 ⟨rfl, bb⟩; have G9 := hE0 bb; clear bb HSF G1; go_wp2
 go_ret
 exact ⟨rfl, G9.out⟩
theorem alb (h : Ar w 79 g base cap A c bs) (hb : base <= 4611686018427387904) (n : Nat) (hn : bs.length = n) (hl : n <= 16384) (q k f m p : Nat) (hk : abf bs (q : Int) = (k : Int)) (hf : aae bs (8 + 8 * k) = f) (hm : aae bs (q + 8) = m) (hp : aae bs (q + 16) = p) (hp0 : p ≠ 0) (hpm : abC bs k p 8 q = true) (hn0 : m ≠ 0) (hnm : abC bs k m 16 q = true) (hfq : f ≠ q) :
 Calls Tryz.prog 134 #[.pointer (some ⟨g, 0, none⟩), .int .i64 (q : Int)] w fun e w' => e = .returned (aaz true 3) /\ Became 79 g base cap A (abS (lyN (lyN (lyN bs (p + 8) m) (m + 16) p) (8 + 8 * k) f) k) w w' := by
 obtain ⟨q184, q32, k22⟩ := abj hk; have hfl : f < 18446744073709551616 := by rw [<- hf]; exact aao _ _
 have hml : m < 18446744073709551616 := by rw [<- hm]; exact aao _ _
 have hpl : p < 18446744073709551616 := by rw [<- hp]; exact aao _ _
 have HF := hE0 (abc h hb (by omega) (q : Int) (by omega) k hk); have HFA := hE0 (fun W => aaV W k k22); have HNF := hE0 (fun W (hB : Below w.heap.size w W) => aak (h.below hB) hb (by omega) (8 + 8 * (k : Int)) (8 + 8 * k) (by omega) (by omega) f hf); have HNM := hE0 (fun W (hB : Below w.heap.size w W) => aak (h.below hB) hb (by omega) ((q : Int) + 8) (q + 8) (by omega) (by omega) m hm); have HNP := hE0 (fun W (hB : Below w.heap.size w W) => aak (h.below hB) hb (by omega) ((q : Int) + 16) (q + 16) (by omega) (by omega) p hp); have hq2 : q + 32 <= n := by omega
 have hq3 : 184 <= q := by omega
 have s1 : ((p : Int) == 0) = false := by rw [beq_eq_false_iff_ne]; omega
 have s1b : ((p : Int) != 0) = true := by rw [bne_iff_ne]; omega
 have HPM := hE0 (fun W (hB : Below w.heap.size w W) => abQ (h.below hB) hb (by omega) k p 8 q k22 hpl (by omega) _ hpm); have HNH := hE0 (fun W (hB : Below w.heap.size w W) => abQ (h.below hB) hb (by omega) k m 16 q k22 hml (by omega) _ hnm); have s3 : ((m : Int) != 0) = true := by rw [bne_iff_ne]; omega
 have s4 : ((f : Int) == (q : Int)) = false := by rw [beq_eq_false_iff_ne]; omega
 have hpin := aaZ (abH hpm); have hp8 : p + 32 <= n := by omega
 have hnin := aaZ (abH hnm); have hn16 : m + 32 <= n := by omega
 have HBO := hE0 (fun W (hB : Below w.heap.size w W) => abF h hB); obtain ⟨b1, hb1⟩ : ∃ b, lyN bs (p + 8) m = b := ⟨_, rfl⟩; have nb1 : b1.length = n := by rw [<- hb1, aal _ _ _ (by omega)]; exact hn
 have HS1 := fun W (hB : Became 79 g base cap A bs w W) => aa4 hB hb (by omega) ((p : Int) + 8) (p + 8) (by omega) (by omega) m hml; rw [hb1] at HS1 ⊢; have HS1 := hE0 HS1; obtain ⟨b2, hb2⟩ : ∃ b, lyN b1 (m + 16) p = b := ⟨_, rfl⟩; have nb2 : b2.length = n := by rw [<- hb2, aal _ _ _ (by omega)]; exact nb1
 have HS2 := fun W (hB : Became 79 g base cap A b1 w W) => aa4 hB hb (by omega) ((m : Int) + 16) (m + 16) (by omega) (by omega) p hpl; rw [hb2] at HS2 ⊢; have HS2 := hE0 HS2; have HSF := hE0 (fun W (hB : Became 79 g base cap A b2 w W) => abu hB hb n nb2 hl (by omega) k k22 f (by omega)); clear hb1 nb1 hb2 nb2; clear h hk hf hn hm hp hpm hnm; go_enter Tryz.func134, Tryz.ntmps134
 go_wp2_with fail
 with_reducible refine HF.out.mono ?_
 rintro e w1 ⟨rfl, hb1⟩; have HB := hE0 hb1; clear hb1 HF; go_wp2_with fail
 refine (HFA.out _).mono ?_; rintro e w9 ⟨rfl, rfl⟩; go_wp2_with fail
 refine (HNF.out _ HB.out).mono ?_; rintro e w9 ⟨rfl, rfl⟩; go_wp2_with fail
 refine (HNM.out _ HB.out).mono ?_; rintro e w9 ⟨rfl, rfl⟩; go_wp2_with fail
 refine (HNP.out _ HB.out).mono ?_; rintro e w9 ⟨rfl, rfl⟩; clear HFA HNF HNM HNP; go_wp2_with fail
 refine (HPM.out _ HB.out).mono ?_; rintro e w2 ⟨rfl, hb2⟩; have HB2 := hE0 (HB.out.trans (hb2.mono HB.out.size)); clear hb2 HPM HB; go_wp2_with fail
 refine (HNH.out _ HB2.out).mono ?_; rintro e w3 ⟨rfl, hb3⟩; have HB3 := hE0 (HB2.out.trans (hb3.mono HB2.out.size)); clear hb3 HNH HB2; have G0 := hE0 (HBO.out _ HB3.out); clear HBO HB3; go_wp2_with fail
 refine (HS1.out _ G0.out).mono ?_; rintro e x1 ⟨rfl, bb⟩; have G1 := hE0 bb; clear bb HS1 G0; go_wp2_with fail
 refine (HS2.out _ G1.out).mono ?_; rintro e x2 ⟨rfl, bb⟩; have G2 := hE0 bb; clear bb HS2 G1; go_wp2_with fail
 refine (HSF.out _ G2.out).mono ?_; rintro e x9 ⟨rfl, bb⟩; have G9 := hE0 bb; clear bb HSF G2; go_wp2
 go_ret
 exact ⟨rfl, G9.out⟩
end
theorem adp {bs : List UInt8} {k v j u : Nat} (h : abC bs k v j u = false) : aat bs v (k : Int) = false \/ (aae bs (v + j) : Int) ≠ (u : Int) := by
 unfold abC at h; rw [Bool.and_eq_false_iff, beq_eq_false_iff_ne] at h; rcases h with h | h
 · exact .inl h
 · exact .inr (by omega)
theorem adW {bs : List UInt8} {k v j u : Nat} (h : abC bs k v j u = true) : ¬ (aat bs v (k : Int) = false \/ (aae bs (v + j) : Int) ≠ (u : Int)) := by
 unfold abC at h; rw [Bool.and_eq_true, beq_iff_eq] at h; rintro (h1 | h1)
 · rw [h.1] at h1; cases h1
 · exact h1 (by omega)
theorem amx (bs : List UInt8) (o v e k : Nat) (h1 : o + 8 <= e) (h2 : e + 8 <= bs.length) : lyN (lyN bs e k) o v = lyN (lyN bs o v) e k := by
 have := ahr bs o v e k h1 h2; simpa only [agt] using this
theorem apz : aqk := by
 intro w g base cap c A bs o y h hb hl ho hy; subst hy; rcases adS bs o with hk | ⟨k, hk⟩
 · have e : adR bs o = none := by unfold adR; rw [if_pos hk]
   rw [e]; exact amw h hb _ rfl hl o ho hk
 · obtain ⟨q184, q32, k22⟩ := abj hk; obtain ⟨q, rfl⟩ : ∃ q : Nat, o = (q : Int) := ⟨o.toNat, by omega⟩; obtain ⟨f, hf⟩ := nmE (aae bs (8 + 8 * k)); obtain ⟨m, hm⟩ := nmE (aae bs (q + 8)); obtain ⟨p, hp⟩ := nmE (aae bs (q + 16)); have e : adR bs (q : Int) = if p = 0 /\ (f : Int) ≠ (q : Int) then none
    else if p ≠ 0 /\ (aat bs p (k : Int) = false \/ (aae bs (p + 8) : Int) ≠ (q : Int)) then none
    else if m ≠ 0 /\ (aat bs m (k : Int) = false \/ (aae bs (m + 16) : Int) ≠ (q : Int)) then none
    else some (abS (if p ≠ 0 /\ (f : Int) = (q : Int) then lyN (if m ≠ 0 then lyN (if p = 0 then lyN bs (8 + 8 * k) m else lyN bs (p + 8) m) (m + 16) p else (if p = 0 then lyN bs (8 + 8 * k) m else lyN bs (p + 8) m)) (8 + 8 * k) m else (if m ≠ 0 then lyN (if p = 0 then lyN bs (8 + 8 * k) m else lyN bs (p + 8) m) (m + 16) p else (if p = 0 then lyN bs (8 + 8 * k) m else lyN bs (p + 8) m))) k) := by
    unfold adR; rw [hk, if_neg (by omega)]; simp only [Int.toNat_natCast, hf, hm, hp]
   rw [e]; by_cases hp0 : p = 0
   · by_cases hfq : f = q
     · rw [if_neg (by omega), if_neg (by omega)]; by_cases hm0 : m = 0
       · rw [if_neg (by omega), if_neg (by omega), if_neg (by omega), if_pos hp0]; exact ak6 h hb _ rfl hl q k f m p hk hf hm hp hp0 hfq hm0
       · cases hmh : abC bs k m 16 q with
         | false =>
          rw [if_pos ⟨hm0, adp hmh⟩]; exact ail h hb _ rfl hl q k f m p hk hf hm hp hp0 hfq hm0 hmh
         | true =>
          have hin := aaZ (abH hmh); rw [if_neg (fun h => adW hmh h.2), if_neg (by omega), if_pos hm0, if_pos hp0, <- amx bs (8 + 8 * k) m (m + 16) p (by omega) (by omega)]; exact ak7 h hb _ rfl hl q k f m p hk hf hm hp hp0 hfq hm0 hmh
     · rw [if_pos ⟨hp0, by omega⟩]; exact aik h hb _ rfl hl q k f m p hk hf hm hp hp0 hfq
   · rw [if_neg (fun h => hp0 h.1)]
     cases hph : abC bs k p 8 q with
     | false =>
      rw [if_pos ⟨hp0, adp hph⟩]; exact ajV h hb _ rfl hl q k f m p hk hf hm hp hp0 hph
     | true =>
      have hpin := aaZ (abH hph); rw [if_neg (fun h => adW hph h.2)]; by_cases hm0 : m = 0
      · rw [if_neg (fun h => h.1 hm0)]; by_cases hfq : f = q
        · rw [if_pos ⟨hp0, by omega⟩, if_neg (fun h => h hm0), if_neg hp0]; exact ak8 h hb _ rfl hl q k f m p hk hf hm hp hp0 hph hm0 hfq
        · rw [if_neg (fun h => hfq (by omega)), if_neg (fun h => h hm0), if_neg hp0]; have e2 : lyN (lyN bs (p + 8) m) (8 + 8 * k) f = lyN bs (p + 8) m := by
           have h1 : aae (lyN bs (p + 8) m) (8 + 8 * k) = f := by rw [aaF _ _ _ _ (by omega) (by omega)]; exact hf
           rw [<- h1]; exact ago _ _ (by rw [aal _ _ _ (by omega)]; omega)
          have := ala h hb _ rfl hl q k f m p hk hf hm hp hp0 hph hm0 hfq; rw [e2] at this; exact this
      · cases hmh : abC bs k m 16 q with
        | false =>
         rw [if_pos ⟨hm0, adp hmh⟩]; exact aim h hb _ rfl hl q k f m p hk hf hm hp hp0 hph hm0 hmh
        | true =>
         have hin := aaZ (abH hmh); rw [if_neg (fun h => adW hmh h.2)]; by_cases hfq : f = q
         · rw [if_pos ⟨hp0, by omega⟩, if_pos hm0, if_neg hp0]; exact ak9 h hb _ rfl hl q k f m p hk hf hm hp hp0 hph hm0 hmh hfq
         · rw [if_neg (fun h => hfq (by omega)), if_pos hm0, if_neg hp0]; have hl1 : (lyN bs (p + 8) m).length = bs.length := aal _ _ _ (by omega); have e2 : lyN (lyN (lyN bs (p + 8) m) (m + 16) p) (8 + 8 * k) f = lyN (lyN bs (p + 8) m) (m + 16) p := by
            have h1 : aae (lyN (lyN bs (p + 8) m) (m + 16) p) (8 + 8 * k) = f := by rw [aaF _ _ _ _ (by omega) (by omega), aaF _ _ _ _ (by omega) (by omega)]; exact hf
            rw [<- h1]; exact ago _ _ (by rw [aal _ _ _ (by omega)]; omega)
           have := alb h hb _ rfl hl q k f m p hk hf hm hp hp0 hph hm0 hmh hfq; rw [e2] at this; exact this
theorem anR : aqR := by
 intro w g base cap c A bs k x h hb hl hk hx; have hk1 : ¬ (k : Int) < 0 := by omega
 have hk2 : ¬ 22 <= (k : Int) := by omega
 by_cases h0 : bs.length < 184
 · obtain rfl : none = x := by rw [<- hx]; unfold aep; rw [if_pos h0]
   have HL := hE0 (abX h); clear hx h; go_enter Tryz.func46, Tryz.ntmps46
   go_wp2_with fail
   with_reducible refine HL.out.mono ?_
   rintro e w1 ⟨rfl, rfl⟩; go_wp2
   go_ret2
   exact ⟨none, 0, rfl, World.ownsRow_nil _ _ _ _, Below.refl _ _⟩
 · obtain ⟨f, hf⟩ := nmE (aae bs (8 + 8 * k)); obtain ⟨b, hbt⟩ := nmE (acq (aae bs 0) k); have hfl : f < 18446744073709551616 := by rw [<- hf]; exact aao _ _
   have hx' : (if b ≠ decide (f ≠ 0) then none else ad2 bs k 1024 0 f) = x := by rw [<- hx]; unfold aep; rw [if_neg h0, hf, hbt]
   have HL := hE0 (abX h); have HFA := hE0 (aaV w k hk); have HNF := hE0 (aak h hb hl (8 + 8 * (k : Int)) (8 + 8 * k) (by omega) (by omega) f hf); have HBT := hE0 (aii h hb hl (by omega) k hk b hbt); have HAR := hE0 h; have HBASE := hE0 hb; obtain ⟨d, hd⟩ := nmE (decide (f ≠ 0)); have hd2 : ((f : Int) != 0) = d := by
    rw [<- hd, Bool.eq_iff_iff, bne_iff_ne, decide_eq_true_eq]; omega
   rw [hd] at hx'; clear hf hbt hx h hb; by_cases hbd : b = d
   · subst hbd; rw [if_neg (by simp)] at hx'; obtain ⟨i0, hi, hz0, hz1, hz2⟩ := info_parts agu; have HX := hE0 hx'; obtain ⟨B0, hB0⟩ := nmE w.heap.size; have HB0 := hE0 hB0; have hbb : (b != b) = false := by simp
     clear hx' hB0 hd; go_enter Tryz.func46, Tryz.ntmps46
     go_wp2_with fail
     with_reducible refine HL.out.mono ?_
     rintro e w1 ⟨rfl, rfl⟩; go_wp2_with fail
     with_reducible refine HFA.out.mono ?_
     rintro e w1 ⟨rfl, rfl⟩; go_wp2_with fail
     with_reducible refine HNF.out.mono ?_
     rintro e w1 ⟨rfl, rfl⟩; go_wp2_with fail
     with_reducible refine HBT.out.mono ?_
     rintro e w1 ⟨rfl, rfl⟩; clear HL HFA HNF HBT; go_wp2
     clear hd2; go_loopw [6, 7, 8] (fun q o t wr => ∃ (p last n : Nat) (l : List Nat), q = .int .u64 (p : Int) /\ t = .int .u64 (last : Int) /\ p < 18446744073709551616 /\ last < 18446744073709551616 /\ n + l.length = 1024 /\ x = (ad2 bs k n last p).map (l ++ ·) /\ wr.ownsRow B0 3 1 o l.length (l.map iV) /\ Below B0 w wr) (fun _ o _ _ => match o with | .slice _ n _ => 1024 - n | _ => 0)
     case atStart => exact ⟨f, 0, 1024, [], rfl, rfl, hfl, by omega, rfl, by rw [HX.out]; simp, World.ownsRow_nil _ _ _ _, Below.refl _ _⟩
     case round =>
      obtain ⟨p, last, n, l, rfl, rfl, hp, hlast, hn, hxl, hown, hbw⟩ := hrel; obtain ⟨A7, c7, rfl⟩ := aa0 hown; have hBw : B0 <= wr.heap.size := by have := hbw.size; have := HB0.out; omega
      by_cases hp0 : p = 0
      · subst hp0; obtain rfl : x = some l := by rw [hxl]; cases n <;> simp [ad2]
        have HB := hE0 hbw; have HO := hE0 hown; clear hxl hown hbw HX HAR HBASE; go_wp2
        go_ret2
        exact ⟨A7, c7, rfl, by rw [HB0.out]; exact HO.out, by rw [HB0.out]; exact HB.out⟩
      · have hq0 : ((p : Int) != 0) = true := by rw [bne_iff_ne]; omega
        have har := HAR.out.below (by rw [HB0.out]; exact hbw); by_cases hn0 : n = 0
        · subst hn0; obtain rfl : x = none := by rw [hxl]; simp [ad2, hp0]
          have e1 : ((l.length : Int) == 1024) = true := by rw [beq_iff_eq]; omega
          have HB := hE0 hbw; clear hxl hown hbw HX HAR HBASE har; go_wp2
          go_ret2
          exact ⟨none, 0, rfl, World.ownsRow_nil _ _ _ _, by rw [HB0.out]; exact HB.out⟩
        · obtain ⟨n, rfl⟩ : ∃ n', n = n' + 1 := ⟨n - 1, by omega⟩; have e1 : ((l.length : Int) == 1024) = false := by rw [beq_eq_false_iff_ne]; omega
          have hstep : x = (if aat bs p (k : Int) = true /\ aae bs (p + 16) = last then (ad2 bs k n p (aae bs (p + 8))).map (p :: ·) else none).map (l ++ ·) := by
           rw [hxl]; conv => lhs; unfold ad2
           rw [if_neg hp0]
          cases hm : abC bs k p 16 last with
          | false =>
           rw [if_neg (by
            rintro ⟨h1, h2⟩; unfold abC at hm; rw [h1, h2] at hm; simp at hm)] at hstep
           obtain rfl : x = none := hstep; have HM := hE0 (abQ har HBASE.out hl k p 16 last hk hp (by omega) false hm); have HB := hE0 hbw; clear hxl hown hbw HX HAR HBASE har hm; go_wp2_with fail
           refine HM.out.mono ?_; rintro e w2 ⟨rfl, hb2⟩; have HB2 := hE0 (HB.out.trans (hb2.mono hBw)); clear hb2; go_wp2
           go_ret2
           exact ⟨none, 0, rfl, World.ownsRow_nil _ _ _ _, by rw [HB0.out]; exact HB2.out⟩
          | true =>
           obtain ⟨hm1, hm2⟩ : aat bs p (k : Int) = true /\ aae bs (p + 16) = last := by
            unfold abC at hm; rw [Bool.and_eq_true, beq_iff_eq] at hm; exact hm
           have hpf := aaZ hm1; obtain ⟨nx, hnx⟩ := nmE (aae bs (p + 8)); have hnl : nx < 18446744073709551616 := by rw [<- hnx]; exact aao _ _
           rw [if_pos ⟨hm1, hm2⟩, hnx] at hstep; have hstep' : x = (ad2 bs k n p nx).map ((l ++ [p]) ++ ·) := by
            rw [hstep, Option.map_map]; congr 1; funext r; simp
           have hp16 : p <= 16384 := by omega
           have hww : w.heap.size <= wr.heap.size := by have := HB0.out; omega
           have HN := hE0 (fun W (hB : Below w.heap.size w W) => aak (HAR.out.below hB) HBASE.out hl ((p : Int) + 8) (p + 8) (by omega) (by omega) nx hnx); have HM := hE0 (abQ har HBASE.out hl k p 16 last hk hp (by omega) true hm); have HB := hE0 hbw; have HS := hE0 hstep'; have HOWN := hE0 hown; have HALT : Hid (∀ k, (Value.slice A7 l.length c7).ownBlock = some k -> B0 <= k /\ k < wr.heap.size) := hown.lt; clear hxl hstep hstep' hown hbw HX hm hm1 hm2 hnx har HAR HBASE; go_wp2_with fail
           refine HM.out.mono ?_; rintro e w2 ⟨rfl, hb2⟩; have H2 := hE0 hb2; have own4 := aay (aay HOWN.out hb2) ((Below.refl w2.heap.size w2).alloc (Nat.le_refl _) (.cells #[.int .i64 (p : Int)] 3)); have n4 : (w2.alloc (.cells #[.int .i64 (p : Int)] 3)).heap[w2.heap.size]? = some (.cells #[.int .i64 (p : Int)] 3 (0, 0)) := heap_alloc_new w2 _; have HNEW : Hid (∀ j u, [Value.int .i64 (p : Int)][j]? = some u -> (w2.alloc (.cells #[.int .i64 (p : Int)] 3)).cell? ((⟨w2.heap.size, 0, none⟩ : Addr).add j) = some u) := fun j u hu => by
            have e : (⟨w2.heap.size, 0, none⟩ : Addr).add j = ⟨w2.heap.size, j, none⟩ := by unfold Addr.add; split <;> simp_all
            rw [e, cell_of_row _ _ j _ _ (0, 0) n4]; simpa using hu
           have HONE : Hid (∀ u ∈ [Value.int .i64 (p : Int)], u.oneCell' = true) := fun u hu => by
            simp at hu; subst hu; rfl
           have hB4 : B0 <= (w2.alloc (.cells #[.int .i64 (p : Int)] 3)).heap.size := by simp; have := hb2.size; omega
           have HB4 : Hid (Below w2.heap.size w2 (w2.alloc (.cells #[.int .i64 (p : Int)] 3))) := (Below.refl w2.heap.size w2).alloc (Nat.le_refl _) _; have OWN4 := hE0 own4; have hsz2 := hb2.size; clear own4 n4 hb2 HOWN HM; go_wp2_with (first
            | (at_builtin; go_must (refine wpList_append_own _ rfl _ _ 86 rfl B0 3 i0 _ 1 8 Tryz.underlying86 hi hz0 hz1 hz2 rfl (by decide) _ l.length (l.map iV) rfl OWN4.out ⟨w2.heap.size, 0, none⟩ 1 1 [.int .i64 (p : Int)] rfl rfl HNEW.out HONE.out (by unfold maxLen; omega) (by omega) hB4 ?_); intro x5 w5 own5 gr5 at5;
               have gr5' : (w2.alloc (.cells #[.int .i64 (p : Int)] 3)).grownBy w5 (Value.slice A7 l.length c7).ownBlock := gr5; have HB5 : Hid (Below B0 wr w5) := ((H2.out.mono hBw).trans (HB4.out.mono (by omega))).grown gr5' hB4 (fun k hk => (HALT.out k hk).1); have HW5 : Hid (Below w.heap.size w w5) := (show Below w.heap.size w w5 by rw [HB0.out]; exact HB.out.trans HB5.out); have OWN5 : Hid (w5.ownsRow B0 3 1 x5 (l.length + 1) ((l ++ [p]).map iV)) := (show World.ownsRow _ _ _ _ _ _ _ by rw [List.map_append]; exact own5); clear own5 gr5 gr5' at5)
            | fail)
           refine (HN.out w5 HW5.out).mono ?_; rintro e w6 ⟨rfl, rfl⟩; have HBE := hE0 (HB.out.trans HB5.out); clear HN H2 HB4 OWN4 HNEW HONE; go_wp2
           go_roundw
           case rel => exact ⟨nx, p, n, l ++ [p], rfl, rfl, hnl, hp, by rw [List.length_append, List.length_singleton]; omega, HS.out, by rw [List.length_append, List.length_singleton]; exact OWN5.out, HBE.out⟩
           case measure =>
            obtain ⟨A8, c8, rfl⟩ := aa0 OWN5.out; simp; omega
   · rw [if_pos hbd] at hx'; obtain rfl : none = x := hx'; have hcs : (b = true /\ d = false) \/ (b = false /\ d = true) := by cases b <;> cases d <;> simp_all
     clear hd hbd HAR HBASE; rcases hcs with ⟨rfl, rfl⟩ | ⟨rfl, rfl⟩; all_goals
      go_enter Tryz.func46, Tryz.ntmps46
      go_wp2_with fail
      with_reducible refine HL.out.mono ?_
      rintro e w1 ⟨rfl, rfl⟩; go_wp2_with fail
      with_reducible refine HFA.out.mono ?_
      rintro e w1 ⟨rfl, rfl⟩; go_wp2_with fail
      with_reducible refine HNF.out.mono ?_
      rintro e w1 ⟨rfl, rfl⟩; go_wp2_with fail
      with_reducible refine HBT.out.mono ?_
      rintro e w1 ⟨rfl, rfl⟩; clear HL HFA HNF HBT; go_wp2
      go_ret2
      exact ⟨none, 0, rfl, World.ownsRow_nil _ _ _ _, Below.refl _ _⟩
end Go.Proofs.YtnicenfdlfffpaaGreatDoor
