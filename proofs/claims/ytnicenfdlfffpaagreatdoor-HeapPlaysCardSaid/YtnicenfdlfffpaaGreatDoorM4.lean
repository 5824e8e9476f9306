/- Texts of mine, joined. -/
import Derived.Great.BuildSlice
import Derived.Deep.Cut
import Derived.Test.YtnicenfdlfffpaaGreatDoorM3
set_option maxRecDepth 100000
set_option maxHeartbeats 4000000
namespace Go.Proofs.YtnicenfdlfffpaaGreatDoor
open Go.RowKit
def Rw (S : Nat -> Prop) (w : World) (A : Option Addr) (l : List Nat) : Prop := 0 < l.length -> ∃ b o, A = some ⟨b, o, none⟩ /\ b < w.heap.size /\ ¬ S b /\ ∀ (j x : Nat), l[j]? = some x -> w.cell? ⟨b, o + j, none⟩ = some (.int .i64 (x : Int))
section
variable {S S' : Nat -> Prop} {w w' : World} {gl : Nat} {L : Nat -> List Nat} {cs : List Value} {A : Option Addr} {l : List Nat}
theorem Rw.keep (h : Rw S w A l) (hz : w.heap.size <= w'.heap.size) (hk : ∀ k, k < w.heap.size -> ¬ S k -> w'.heap[k]? = w.heap[k]? /\ ¬ S' k) : Rw S' w' A l := fun h0 => by
 obtain ⟨b, o, e, hb, hn, hc⟩ := h h0; obtain ⟨k1, k2⟩ := hk b hb hn; exact ⟨b, o, e, Nat.lt_of_lt_of_le hb hz, k2, fun j x hx => (World.cell?_of_block (w := w) (a := ⟨b, o + j, none⟩) k1).trans (hc j x hx)⟩
end
section
variable {wB W W' : World} {g c gl gi : Nat} {A : Option Addr} {bs : List UInt8} {L : Nat -> List Nat} {cs : List Value} {inn : List Bool}
end
section
variable {fr : List Bk} {inn : List Bool} {L : Nat -> List Nat} {e k c : Nat} {x : Bk}
end
theorem aoB : (Tryz.prog.info? 86).map (fun i => (i.zero, i.size, i.bytes)) = some (some (.slice none 0 0), 1, 24) := by kernel_rfl
theorem amy (z : Value) (n : Nat) : madeCells #[z] n = (List.replicate n z).toArray := by
 apply Array.ext
 · simp [madeCells]
 · intro i h1 h2; simp [madeCells, Nat.mod_one]
theorem anS (W : World) : (Instr.makeSlice 56 (.int .i64 22) (.int .i64 22)).run Tryz.prog W = .ok (.slice (some ⟨W.heap.size, 0, none⟩) 22 22) (W.alloc (.cells (List.replicate 22 (Value.slice none 0 0)).toArray 86)) := by
 have h := run_make_row' (P := Tryz.prog) 56 86 (.slice none 0 0) 24 Tryz.underlying56 aoB rfl .i64 .i64 22 (by omega) (by omega) W; rw [amy] at h; exact h
theorem ain (w : World) (x : Int) : (Instr.buildSlice 86 1 #[(0, .int .i64 x)]).run Tryz.prog w = .ok (.slice (some ⟨w.heap.size, 0, none⟩) 1 1) (w.alloc (.cells #[.int .i64 x] 3)) := by
 obtain ⟨i0, hi, hz0, hz1, hz2⟩ := info_parts agu; refine run_buildSlice w 86 3 1 _ _ i0 _ Tryz.underlying86 hi hz0 (by omega) (by omega) ?_; rw [hz1]; have e : Array.range (1 * 1) = #[0] := by decide
 rw [e]; simp [Instr.fill, Value.cells]
theorem anT (l : List Nat) : ∀ u ∈ l.map iV, u.oneCell' = true := by
 intro u hu; obtain ⟨x, _, rfl⟩ := List.mem_map.1 hu; rfl
theorem ajk {S : Nat -> Prop} {w : World} {ad : Addr} {l : List Nat} (h : Rw S w (some ad) l) : ∀ j u, (l.map iV)[j]? = some u -> w.cell? (ad.add j) = some u := by
 intro j u hu; rw [List.getElem?_map, Option.map_eq_some_iff] at hu; obtain ⟨x, hx, rfl⟩ := hu; have hj : j < l.length := by
  rcases Nat.lt_or_ge j l.length with h1 | h1
  · exact h1
  · rw [List.getElem?_eq_none h1] at hx; cases hx
 obtain ⟨b, off, e, _, _, hc⟩ := h (by omega)
 cases e; have e : (⟨b, off, none⟩ : Addr).add j = ⟨b, off + j, none⟩ := by unfold Addr.add; split <;> simp_all
 rw [e]; exact hc j x hx
theorem aoC (w : World) (x : Nat) : (w.alloc (.cells #[.int .i64 (x : Int)] 3)).ownsRow w.heap.size 3 1 (.slice (some ⟨w.heap.size, 0, none⟩) 1 1) 1 ([x].map iV) :=
 ⟨rfl, .inr ⟨w.heap.size, 1, _, rfl, Nat.le_refl _, heap_alloc_new w _, Nat.le_refl _, by unfold maxLen; omega, rfl, rfl⟩⟩
theorem ajl (l : List Nat) : (amt l).length = l.length := by simp [amt]
theorem aio {ops : Array Oper} {rest : List Oper} {o : Oper} {a : Act} {w : World} {Q : Exit -> Act -> World -> Prop} (hgd : o.guard = none) (s x : Operand) (ho : o.op = .call { callee := .builtin .append, args := #[s, x], argTypes := #[86, 86] })
 (base : Nat) (v : Value) (n : Nat) (bs : List Nat) (hs : a.eval s = v) (hown : w.ownsRow base 3 1 v n (bs.map iV))
 (S : Nat -> Prop) (A : Option Addr) (c : Nat) (cs : List Nat) (hx : a.eval x = .slice A cs.length c) (hr : Rw S w A cs) (hA : A = none -> c = 0)
 (hb : n + cs.length <= 1000000) (hbase : base <= w.heap.size)
 (h : ∀ v' w', w'.ownsRow base 3 1 v' (n + cs.length) ((bs ++ cs).map iV) -> w.grownBy w' v.ownBlock -> wpList Tryz.prog ops Q rest (a.put o.dst v') w') : wpList Tryz.prog ops Q (o :: rest) a w := by
 obtain ⟨i0, hi, hz0, hz1, hz2⟩ := info_parts agu; rcases A with _ | ad
 · obtain rfl := hA rfl; have hm : cs.length = 0 := by
    rcases Nat.eq_zero_or_pos cs.length with h0 | h0
    · exact h0
    · obtain ⟨_, _, e1, _⟩ := hr h0
      cases e1
   obtain rfl : cs = [] := List.eq_nil_of_length_eq_zero hm; refine wpList_append_own_none hgd s x 86 ho base 3 i0 1 Tryz.underlying86 hi v n _ hs hown hx ?_; exact h v w (by simpa using hown) (World.grownBy.refl w _)
 · refine wpList_append_own w hgd s x 86 ho base 3 i0 (.int .i64 0) 1 8 Tryz.underlying86 hi hz0 hz1 hz2 rfl (by decide) v n _ hs hown ad cs.length c (cs.map iV) hx (by simp) (ajk hr) (anT cs) (by unfold maxLen; omega) (by omega) hbase ?_; intro v' w' h1 h2 _; exact h v' w' (by simpa using h1) h2
theorem apA {S : Nat -> Prop} {w : World} {base n : Nat} {A : Option Addr} {c : Nat} {l : List Nat} (h : w.ownsRow base 3 1 (.slice A n c) n (l.map iV)) (hn : n = l.length) (hS : ∀ k, base <= k -> ¬ S k) : Rw S w A l /\ (A = none -> c = 0) := by
 refine ⟨fun h0 => ?_, fun e => ?_⟩
 · rcases h.2 with ⟨_, h0'⟩ | ⟨g, _, _, h', _⟩
   · omega
   · injection h' with e; subst e; refine ⟨g, 0, rfl, (h.lt g rfl).2, hS g (h.lt g rfl).1, fun j x hx => ?_⟩; have hj : j < l.length := by
      rcases Nat.lt_or_ge j l.length with h | h
      · exact h
      · rw [List.getElem?_eq_none h] at hx; cases hx
     rw [Nat.zero_add, h.cellAt j (by omega), List.getElem?_map, hx]; rfl
 · subst e; rcases h.2 with ⟨h', _⟩ | ⟨_, _, _, h', _⟩
   · injection h' with _ _ e
   · injection h' with e; cases e
def aip (bs : List UInt8) (s : Int) : Value := if aaG s = true then .tuple #[.int .i64 (((akN bs s).getD 0 : Nat) : Int), aaz (akN bs s).isSome 3] else .tuple #[.int .i64 0, aaz false 1]
def aql : Prop := ∀ (w : World) (g base cap c : Nat) (A : Option Addr) (bs : List UInt8) (s : Int), Ar w 79 g base cap A c bs -> base <= 4611686018427387904 -> bs.length <= 16384 -> (-9223372036854775808 <= s /\ s <= 9223372036854775807) ->
 Calls Tryz.prog 111 #[.pointer (some ⟨g, 0, none⟩), .int .i64 s] w fun e w' => e = .returned (aip bs s) /\ Below w.heap.size w w'
def amz : Prop := ∀ (w : World) (g base cap c : Nat) (A : Option Addr) (bs : List UInt8) (y : Option (List UInt8)), Ar w 79 g base cap A c bs -> base <= 4611686018427387904 -> bs.length <= 16384 -> acL bs = y ->
 Calls Tryz.prog 48 #[.pointer (some ⟨g, 0, none⟩)] w fun e w' => amg 3 79 g base cap A y w e w'
section
variable {w : World} {g base cap c : Nat} {A : Option Addr} {bs : List UInt8}
theorem ajW (h : Ar w 79 g base cap A c bs) (hb : base <= 4611686018427387904) (hl : bs.length <= 16384) (h184 : 184 <= bs.length) (z : List UInt8) (hz : List.replicate 184 (0 : UInt8) ++ bs.drop 184 = z) :
 Calls Tryz.prog 81 #[.pointer (some ⟨g, 0, none⟩)] w fun e w' => e = .returned .nilIface /\ Became 79 g base cap A z w w' := by
 have HA := hE0 (acu h); have hf := akC h (by omega) base 184 0 0 (by omega) (by omega) (by omega) (by omega); have e : lay bs 0 (List.replicate 184 (0 : UInt8)) = z := by
  have e1 : (List.replicate 184 (0 : UInt8)).length = 184 := List.length_replicate; rw [<- hz]; unfold lay; rw [e1, Nat.zero_add, List.take_zero, List.nil_append]
 rw [e] at hf; have HF : Hid (Calls Tryz.prog 91 #[.pointer (some ⟨g, 0, none⟩), .int .u64 (base : Int), .int .u64 184, .int .u8 0] w fun e w' => e = .returned .nilIface /\ Became 79 g base cap A z w w') := hf; clear hf e hz h; go_enter Tryz.func81, Tryz.ntmps81
 go_wp2_with fail
 with_reducible refine HA.out.mono ?_
 rintro e w1 ⟨rfl, rfl⟩; go_wp2_with fail
 refine HF.out.mono ?_; rintro e w1 ⟨rfl, hbe⟩; have HB := hE0 hbe; clear hbe; go_wp2
 go_ret
 exact ⟨rfl, HB.out⟩
end
section
variable {w w1 w2 : World} {g base cap : Nat} {A : Option Addr} {out : List UInt8}
theorem aaP (h : Became 79 g base cap A out w w1) (hb : Below w1.heap.size w1 w2) : Became 79 g base cap A out w w2 := by
 obtain ⟨A', c', a, tc, k⟩ := h; exact Became.trans a tc k (abF a hb)
theorem amA (h : 184 <= out.length) (o : Int) : ((afI out o).getD out).length = out.length := by
 cases hp : afI out o with
 | none => rfl
 | some y => exact (ae1 h hp).1
theorem ajX (h : Became 79 g base cap A out w w1) (hb : base <= 4611686018427387904) (hl : out.length <= 16384) (o : Int) (ho : -9223372036854775808 <= o /\ o <= 9223372036854775807) :
 Calls Tryz.prog 82 #[.pointer (some ⟨g, 0, none⟩), .int .i64 o] w1 fun e w2 => (∃ v, e = .returned v) /\ Became 79 g base cap A ((afI out o).getD out) w w2 := by
 obtain ⟨A', c', a, tc, k⟩ := h; refine (aqS w1 g base cap c' A' out o _ a hb hl ho rfl).mono ?_; intro e w2 hd; unfold amg at hd
 cases hp : afI out o with
 | none =>
  rw [hp] at hd; exact ⟨⟨_, hd.1⟩, Became.trans a tc k (abF a hd.2)⟩
 | some y =>
  rw [hp] at hd; exact ⟨⟨_, hd.1⟩, Became.trans a tc k hd.2⟩
end
section
variable {w : World} {g base cap c : Nat} {A : Option Addr} {bs : List UInt8}
theorem ajY (h : Ar w 79 g base cap A c bs) (hb : base <= 4611686018427387904) (hl : bs.length <= 16384) (A2 : Option Addr) (c2 B1 : Nat) (l : List Nat) (ho : w.ownsRow B1 3 1 (.slice A2 l.length c2) l.length (l.map iV)) (hm : ∀ o ∈ l, o <= 20000 /\ ∃ x, abt bs (o : Int) = some x) (s : Int) (x : Nat) (hx : (l.find? fun o => decide (s <= (szB bs o : Int))).getD 0 = x) :
 Calls Tryz.prog 132 #[.pointer (some ⟨g, 0, none⟩), .slice A2 l.length c2, .int .i64 s] w fun e w' => e = .returned (.int .i64 (x : Int)) /\ Below w.heap.size w w' := by
 have hcl : l.length <= c2 /\ c2 <= 9223372036854775807 := by
  rcases ho.2 with ⟨h', h0⟩ | ⟨_, _, _, h', _, _, h1, h2, _⟩
  · injection h' with _ _ e; rw [h0, e]; omega
  · injection h' with _ _ e; unfold maxLen at h2; omega
 have HX := hE0 hx; have HAR := hE0 h; have HO := hE0 ho; have HMEM := hE0 hm; have HBASE := hE0 hb; obtain ⟨B0, hB0⟩ := nmE w.heap.size; have HB0 := hE0 hB0; clear hx h ho hm hb hB0; go_enter Tryz.func132, Tryz.ntmps132
 go_wp2
 go_loopw [13] (fun i wr => ∃ j : Nat, j <= l.length /\ i = .int .i64 (j : Int) /\ (∀ q ∈ l.take j, decide (s <= (szB bs q : Int)) = false) /\ Below B0 w wr) (fun i _ => l.length - (intOf i).toNat)
 case atStart => exact ⟨0, Nat.zero_le _, rfl, by simp, Below.refl _ _⟩
 case round =>
  obtain ⟨j, hj, rfl, hall, hb3⟩ := hrel; have hBw : B0 <= wr.heap.size := by have := hb3.size; have := HB0.out; omega
  by_cases hlt : j < l.length
  · obtain ⟨o, ho⟩ : ∃ o, l[j]? = some o := ⟨l[j], List.getElem?_eq_getElem hlt⟩; have hb4 : Below w.heap.size w wr := by rw [HB0.out]; exact hb3
    have own3 := aay HO.out hb4; obtain ⟨b2, rfl⟩ : ∃ b2, A2 = some ⟨b2, 0, none⟩ := by
     rcases own3.2 with ⟨_, h0⟩ | ⟨g, _, _, h', _⟩
     · omega
     · injection h' with e; exact ⟨g, e⟩
    have hcell : wr.cell? ⟨b2, j, none⟩ = some (.int .i64 (o : Int)) := by
     rw [own3.cellAt j (by omega), List.getElem?_map, ho]; rfl
    have har := HAR.out.below hb4; obtain ⟨ho20, ⟨xo, xs, xu⟩, hg⟩ := HMEM.out o (List.mem_of_getElem? ho); have hsz := anO hg; dsimp only at hsz; have hG := ahq wr g base cap c A bs (o : Int) _ har HBASE.out hl (by omega) hg; dsimp only [aaL, bkV, Bk.val, Option.isSome, aaz] at hG; have q := (aac _).1 (aaJ hg).2.2.2.2.1; dsimp only at q; have HG := hE0 hG; have HALL := hE0 hall; have HOO := hE0 ho; have HB2R := hE0 hb3; clear hG hg hb3 hb4 own3 hall har ho; by_cases hge : s <= (xs : Int)
    · have hx1 : x = o := by
       rw [<- HX.out, akW HALL.out HOO.out (by rw [hsz]; simpa using hge)]; rfl
      subst hx1; clear HX; go_wp2_with fail
      with_reducible refine HG.out.mono ?_
      rintro e w4 ⟨rfl, hb4⟩; have HB4 := hE0 (HB2R.out.trans (hb4.mono hBw)); have HS4 := hE0 hb4.size; clear hb4; go_wp2
      go_ret
      exact ⟨rfl, by rw [HB0.out]; exact HB4.out.alloc (by have := HS4.out; omega) _⟩
    · go_wp2_with fail
      with_reducible refine HG.out.mono ?_
      rintro e w4 ⟨rfl, hb4⟩; have HB4 := hE0 (HB2R.out.trans (hb4.mono hBw)); have HS4 := hE0 hb4.size; clear hb4; go_wp2
      go_roundw
      case rel => exact ⟨j + 1, by omega, rfl, by
       intro q hq; rw [List.take_add_one, HOO.out] at hq; rcases List.mem_append.1 hq with hq | hq
       · exact HALL.out q hq
       · simp at hq; rw [hq, hsz]; simpa using hge, HB4.out.alloc (by have := HS4.out; omega) _⟩
      case measure => simp only [intOf]; omega
  · obtain rfl : j = l.length := by omega
    have hx2 : x = 0 := by
     rw [<- HX.out, ajQ (by rw [List.take_length] at hall; exact hall)]; rfl
    subst hx2; have HB4 := hE0 hb3; clear HX hall hb3; go_wp2
    go_ret
    exact ⟨rfl, by rw [HB0.out]; exact HB4.out⟩
end
theorem findC : aql := by
 intro w g base cap c A bs s h hb hl hs
 cases hz : aaG s
 · have hv : aip bs s = .tuple #[.int .i64 0, aaz false 1] := by unfold aip; rw [if_neg (by rw [hz]; simp)]
   have hc : aar s = -1 := by simp [aar, hz]
   rw [hv]; have hC := ahp w s hs; rw [hc] at hC; have HC := hE0 hC; clear hz hv hc hC h hb; go_enter Tryz.func111, Tryz.ntmps111
   go_wp2_with fail
   with_reducible refine HC.out.mono ?_
   rintro e w1 ⟨rfl, hb1⟩; have HB := hE0 hb1; clear hb1; go_wp2
   go_ret2
   exact ⟨rfl, HB.out⟩
 · obtain ⟨k0, hk0, hk22⟩ : ∃ k0 : Nat, aar s = (k0 : Int) /\ k0 < 22 := by
    have h1 := act s; have h2 : ¬ aar s < 0 := by rw [afF]; simp [hz]
    exact ⟨(aar s).toNat, by omega, by omega⟩
   obtain ⟨x, hx⟩ := nmE (afu bs s (22 - k0) k0); have hv : aip bs s = .tuple #[.int .i64 ((x.getD 0 : Nat) : Int), aaz x.isSome 3] := by
    unfold aip akN; rw [if_pos hz, hk0, Int.toNat_natCast, hx]
   rw [hv]; have hC := ahp w s hs; rw [hk0] at hC; have HC := hE0 hC; have HX := hE0 hx; have HAR := hE0 h; have HBASE := hE0 hb; obtain ⟨B0, hB0⟩ := nmE w.heap.size; have HB0 := hE0 hB0; clear hz hv hk0 hC h hx hB0 hb; go_enter Tryz.func111, Tryz.ntmps111
   go_wp2_with fail
   with_reducible refine HC.out.mono ?_
   rintro e w1 ⟨rfl, hb1⟩; have HB1 := hE0 hb1; clear hb1 HC; go_wp2
   go_loopw [7] (fun t wr => ∃ d k : Nat, t = .int .i64 (d : Int) /\ d + k = 22 /\ x = afu bs s k d /\ Below B0 w wr) (fun t _ => 22 - (intOf t).toNat)
   case atStart => exact ⟨k0, 22 - k0, rfl, by omega, HX.out.symm, by rw [<- HB0.out]; exact HB1.out⟩
   case round =>
    obtain ⟨d, k, rfl, hdk, hxf, hb2⟩ := hrel; have hBw : B0 <= wr.heap.size := by have := hb2.size; have := HB0.out; omega
    by_cases hd22 : d < 22
    · obtain ⟨k, rfl⟩ : ∃ k', k = k' + 1 := ⟨k - 1, by omega⟩; have har : Ar wr 79 g base cap A c bs := HAR.out.below (by rw [HB0.out]; exact hb2)
      cases ha : aep bs d with
      | none =>
       obtain rfl : x = none := by rw [hxf]; simp [afu, ha]
       have hA := anR wr g base cap c A bs d _ har HBASE.out hl hd22 ha; dsimp only [aec, Option.isSome, Option.getD, aaz] at hA; have HA := hE0 hA; have HB := hE0 hb2; clear hA hb2 hxf har HX ha HAR; go_wp2_with fail
       with_reducible refine HA.out.mono ?_
       rintro e w2 ⟨A', c', rfl, _, hb3⟩; have HB2 := hE0 (HB.out.trans (hb3.mono hBw)); clear hb3; go_wp2
       go_ret2
       exact ⟨rfl, by rw [HB0.out]; exact HB2.out⟩
      | some l =>
       have hA := anR wr g base cap c A bs d _ har HBASE.out hl hd22 ha; dsimp only [aec, Option.isSome, Option.getD, aaz] at hA; have hxf' : x = (match l.find? (fun o => decide (s <= (szB bs o : Int))) with
        | some o => some o
        | none => afu bs s k (d + 1)) := by
        rw [hxf]; conv => lhs; unfold afu
        rw [ha] <;> rfl
       have hmem : ∀ o ∈ l, 184 <= o /\ o <= 20000 /\ ∃ x, abt bs (o : Int) = some x := fun o ho => by
        have hm := acF ha o ho; obtain ⟨h1, x, h2⟩ := adV hm; have := (aaZ hm); exact ⟨by omega, h1, x, h2⟩
       have HF := hE0 (fun (W : World) (hB : Below wr.heap.size wr W) (A2 : Option Addr) (c2 B1 : Nat) (ho : W.ownsRow B1 3 1 (.slice A2 l.length c2) l.length (l.map iV)) => ajY (har.below hB) HBASE.out hl A2 c2 B1 l ho (fun o ho => (hmem o ho).2) s); have HA := hE0 hA; have HB := hE0 hb2; have HXF := hE0 hxf'; have HMEM := hE0 hmem; clear hA hb2 hxf hxf' har HX ha hmem HAR
       cases hfd : l.find? (fun o => decide (s <= (szB bs o : Int))) with
       | some o =>
        obtain rfl : x = some o := by rw [HXF.out, hfd]
        obtain ⟨o184, o20, _⟩ := HMEM.out o (List.mem_of_find?_eq_some hfd); have ho0 : ((o : Int) != 0) = true := by rw [bne_iff_ne]; omega
        have HF2 := hE0 (fun W hB A2 c2 B1 ho => HF.out W hB A2 c2 B1 ho o (by rw [hfd]; rfl)); clear HF HXF hfd HMEM; go_wp2_with fail
        with_reducible refine HA.out.mono ?_
        rintro e w2 ⟨A2, c2, rfl, ho2, hb3⟩; have HFF := hE0 (HF2.out w2 hb3 A2 c2 _ ho2); have HB2 := hE0 (HB.out.trans (hb3.mono hBw)); have hs2 := hb3.size; clear hb3 ho2 HA HF2; go_wp2_with fail
        with_reducible refine HFF.out.mono ?_
        rintro e w3 ⟨rfl, hb4⟩; have HB3 := hE0 (HB2.out.trans (hb4.mono (by omega))); clear hb4 HFF; go_wp2
        go_ret2
        exact ⟨rfl, by rw [HB0.out]; exact HB3.out⟩
       | none =>
        have hx2 : x = afu bs s k (d + 1) := by rw [HXF.out, hfd]
        have HF2 := hE0 (fun W hB A2 c2 B1 ho => HF.out W hB A2 c2 B1 ho 0 (by rw [hfd]; rfl)); have HX2 := hE0 hx2; clear HF HXF hfd HMEM hx2; go_wp2_with fail
        with_reducible refine HA.out.mono ?_
        rintro e w2 ⟨A2, c2, rfl, ho2, hb3⟩; have HFF : Hid (Calls Tryz.prog 132 #[.pointer (some ⟨g, 0, none⟩), .slice A2 l.length c2, .int .i64 s] w2 fun e w' => e = .returned (.int .i64 0) /\ Below w2.heap.size w2 w') := HF2.out w2 hb3 A2 c2 _ ho2; have HB2 := hE0 (HB.out.trans (hb3.mono hBw)); have hs2 := hb3.size; clear hb3 ho2 HA HF2; go_wp2_with fail
        with_reducible refine HFF.out.mono ?_
        rintro e w3 ⟨rfl, hb4⟩; have HB3 := hE0 (HB2.out.trans (hb4.mono (by omega))); clear hb4 HFF; go_wp2
        go_roundw
        case rel => exact ⟨d + 1, k, by go_num, by omega, HX2.out, HB3.out⟩
        case measure => simp only [intOf]; omega
    · obtain ⟨rfl, rfl⟩ : d = 22 /\ k = 0 := by omega
      obtain rfl : x = some 0 := by rw [hxf]; rfl
      have HB := hE0 hb2; clear hxf hb2 HX; go_wp2
      go_ret2
      exact ⟨rfl, by rw [HB0.out]; exact HB.out⟩
theorem ajm {out : List UInt8} (h : 184 <= out.length) (x : Bk) : (aeK out x).length = out.length := by
 unfold aeK; split
 · rfl
 · exact amA h _
theorem ajn : ∀ (l : List Bk) {out : List UInt8}, 184 <= out.length -> (l.foldl aeK out).length = out.length
 | [], _, _ => rfl
 | x :: r, out, h => by
  rw [List.foldl_cons, ajn r (by rw [ajm h]; exact h), ajm h]
theorem agB {S : Nat -> Prop} {w w' : World} (h : Tch S w w') {b j : Nat} {v : Value} (hc : w.cell? ⟨b, j, none⟩ = some v) (hb : b < w.heap.size) (hn : ¬ S b) : w'.cell? ⟨b, j, none⟩ = some v :=
 (World.cell?_of_block (w := w) (a := ⟨b, j, none⟩) (h.block b hb hn)).trans hc
theorem amB : amz := by
 intro w g base cap c A bs y h hb hl hy
 cases hw : aco bs with
 | none =>
  obtain rfl : none = y := by rw [<- hy]; unfold acL; rw [hw]; rfl
  have hW := afw w g base cap c A bs _ h hb hl hw; dsimp only [ac8, Option.isSome, Option.getD, aaz] at hW; dsimp only [amg, aaz]; have HW := hE0 hW; clear hW hw hy h hb; go_enter Tryz.func48, Tryz.ntmps48
  go_wp2_with fail
  with_reducible refine HW.out.mono ?_
  rintro e w2 ⟨A', c', rfl, _, hb2⟩; have HB2 := hE0 hb2; clear hb2; go_wp2
  go_ret
  exact ⟨rfl, HB2.out⟩
 | some l =>
  obtain ⟨h184, hmem⟩ := akX hw; obtain ⟨z, hz⟩ := nmE (List.replicate 184 (0 : UInt8) ++ bs.drop 184); have hzl : z.length = bs.length := by rw [<- hz, List.length_append, List.length_replicate, List.length_drop]; omega
  obtain rfl : some (l.foldl aeK z) = y := by rw [<- hy, <- hz]; unfold acL; rw [hw]; rfl
  have hW := afw w g base cap c A bs _ h hb hl hw; dsimp only [ac8, Option.isSome, Option.getD, aaz] at hW; dsimp only [amg, aaz]; have HCL := hE0 (fun (W : World) (hB : Below w.heap.size w W) => ajW (h.below hB) hb hl h184 z hz); have HW := hE0 hW; have HMEM := hE0 hmem; have HAR := hE0 h; have HBASE := hE0 hb; have HZL := hE0 hzl; obtain ⟨B0, hB0⟩ := nmE w.heap.size; have HB0 := hE0 hB0; clear hW hw hy h hb hz hmem hzl hB0; go_enter Tryz.func48, Tryz.ntmps48
  go_wp2_with fail
  with_reducible refine HW.out.mono ?_
  rintro e w2 ⟨A2, c2, rfl, ho2, hb2⟩; have hcl : l.length <= c2 /\ c2 <= 9223372036854775807 := by
   rcases ho2.2 with ⟨h', h0⟩ | ⟨_, _, _, h', _, _, h1, h2, _⟩
   · injection h' with _ _ e; rw [h0, e]; omega
   · injection h' with _ _ e; unfold maxLen at h2; omega
  have HO2 := hE0 ho2; have HB2 := hE0 hb2; have HAR2 := hE0 (HAR.out.below hb2); have HCL2 := hE0 (HCL.out w2 hb2); clear hb2 ho2 HW HCL; go_wp2_with fail
  refine HCL2.out.mono ?_; rintro e w3 ⟨rfl, hbe⟩; have HBE := hE0 hbe; clear hbe HCL2; go_wp2
  go_loopw [19] (fun t wr => ∃ j : Nat, t = .int .i64 (j : Int) /\ j <= l.length /\ Became 79 g base cap A ((l.take j).foldl aeK z) w2 wr) (fun t _ => l.length - (intOf t).toNat)
  case atStart => exact ⟨0, rfl, Nat.zero_le _, HBE.out⟩
  case round =>
   obtain ⟨j, rfl, hj, hbe⟩ := hrel; by_cases hlt : j < l.length
   · obtain ⟨x, hx⟩ : ∃ x, l[j]? = some x := ⟨l[j], List.getElem?_eq_getElem hlt⟩; obtain ⟨b, o, rfl, hbb, hc⟩ := akY HO2.out rfl (by omega); have hbB : B0 <= b := by have := (HO2.out.lt b rfl).1; have := HB0.out; omega
     have hnf : ¬ abg g A b := fun hf => by
      have h1 : b < w.heap.size := HAR.out.foot_lt hf; have := HB0.out; omega
     obtain ⟨p0, p1, p2⟩ := hc j x hx; have hg := HMEM.out x (List.mem_of_getElem? hx); obtain ⟨_, _, _, q3, _⟩ := aaJ hg; obtain ⟨out, hout⟩ := nmE ((l.take j).foldl aeK z); have hol : out.length = bs.length := by rw [<- hout, ajn _ (by have := HZL.out; omega)]; exact HZL.out
     have hnext : (l.take (j + 1)).foldl aeK z = aeK out x := by
      rw [List.take_add_one, hx, List.foldl_append, hout]; rfl
     rw [hout] at hbe; have htc : Tch (abg g A) w2 wr := by obtain ⟨_, _, _, t, _⟩ := hbe; exact t
     have r0 := agB htc p0 hbb hnf; have r1 := agB htc p1 hbb hnf; have r2 := agB htc p2 hbb hnf; obtain ⟨xo, xs, xu⟩ := x; dsimp only at p0 p1 p2 q3 r0 r1 r2; have hq := (aac _).1 (aaJ hg).2.2.2.2.1; dsimp only at hq; obtain ⟨w4, hw4⟩ := nmE (wr.alloc (.cells #[.int .i64 (xo : Int), .int .i64 (xs : Int), .bool xu] 81)); have hb4 := abE hw4; have n4 := anE hw4; obtain ⟨⟨d0, d1, d2⟩, _⟩ := aad n4; have HBE4 := hE0 (aaP hbe hb4); have HW4 := hE0 hw4; have HP := hE0 (ajX HBE4.out HBASE.out (by rw [hol]; exact hl) (xo : Int) (by omega))
     cases xu with
     | true =>
      have HN : Hid ((l.take (j + 1)).foldl aeK z = out) := hnext; clear hnext hx hc hbe hout htc hg p0 p1 p2 hb4 n4 HP hw4 HAR HAR2; go_wp2_with (first | (rw [HW4.out]) | fail)
      go_roundw
      case rel => exact ⟨j + 1, by go_num, by omega, by rw [HN.out]; exact HBE4.out⟩
      case measure => simp only [intOf]; omega
     | false =>
      have HN : Hid ((l.take (j + 1)).foldl aeK z = (afI out (xo : Int)).getD out) := hnext; clear hnext hx hc hbe hout htc hg p0 p1 p2 hb4 n4 hw4 HAR HAR2; go_wp2_with (first | (rw [HW4.out]) | fail)
      refine HP.out.mono ?_; rintro e w5 ⟨⟨v, rfl⟩, hbe5⟩; have HBE5 := hE0 hbe5; clear hbe5 HP; go_wp2
      go_roundw
      case rel => exact ⟨j + 1, by go_num, by omega, by rw [HN.out]; exact HBE5.out⟩
      case measure => simp only [intOf]; omega
   · obtain hjl : j = l.length := by omega
     rw [hjl, List.take_length] at hbe; have HF := hE0 (hbe.after HB2.out); clear hbe hjl; go_wp2
     go_ret
     exact ⟨rfl, HF.out⟩
def anU : Prop := ∀ (w : World) (g base cap c : Nat) (A : Option Addr) (bs : List UInt8) (x : Bool), Ar w 79 g base cap A c bs -> base <= 4611686018427387904 -> bs.length <= 16384 -> acM bs = x ->
 Calls Tryz.prog 45 #[.pointer (some ⟨g, 0, none⟩)] w fun e w' => e = .returned (aaz x 3) /\ Below w.heap.size w w'
structure Hm (F : Nat -> Prop) (w : World) (p : Nat) (H : Hp) (Vb Vd : Value) (gl : Nat) (cs : List Value) : Prop where
 obj : w.heap[p]? = some (.cells #[.int .i64 (H.cap : Int), Vb, Vd, .slice (some ⟨gl, 0, none⟩) 22 22] 58 (0, 0))
 ob : w.ownsRow 0 81 3 Vb H.blks.length (aaU H.blks)
 od : w.ownsRow 0 36 1 Vd H.ds.length (H.ds.map Prod.fst)
 row : w.heap[gl]? = some (.cells cs.toArray 86 (0, 0))
 len : cs.length = 22
 at_ : ∀ d, d < 22 -> ∃ v, cs[d]? = some v /\ w.ownsRow 0 3 1 v (H.lists d).length ((H.lists d).map iV)
 fp : F p
 fl : F gl
 fb : ∀ k, Vb.ownBlock = some k -> F k
 fd : ∀ k, Vd.ownBlock = some k -> F k
 fi : ∀ d v k, d < 22 -> cs[d]? = some v -> v.ownBlock = some k -> F k
 sl : ∀ d ∈ H.ds, ∃ A n c, d.1 = .slice A n c
def HM (F : Nat -> Prop) (w : World) (p : Nat) (H : Hp) : Prop := ∃ Vb Vd gl cs, Hm F w p H Vb Vd gl cs
def HT (F : Nat -> Prop) (w : World) (p : Nat) (H' : Hp) (w' : World) : Prop := ∃ F', HM F' w' p H' /\ Tch F w w' /\ ∀ k, F' k -> F k \/ w.heap.size <= k
theorem aaD {w w' : World} {base n size : Nat} {t : TypeId} {v : Value} {xs : List Value} (h : w.ownsRow base t size v n xs) (hk : ∀ k, v.ownBlock = some k -> w'.heap[k]? = w.heap[k]?) : w'.ownsRow base t size v n xs := by
 refine ⟨h.1, ?_⟩; rcases h.2 with h2 | ⟨g, cap, cur, hv, hg, hh, r⟩
 · exact .inl h2
 · exact .inr ⟨g, cap, cur, hv, hg, (hk g (by rw [hv]; rfl)).trans hh, r⟩
theorem aaI {w : World} {base base' n size : Nat} {t : TypeId} {v : Value} {xs : List Value} (h : w.ownsRow base t size v n xs) (hb : base' <= base) : w.ownsRow base' t size v n xs := by
 refine ⟨h.1, ?_⟩; rcases h.2 with h2 | ⟨g, cap, cur, hv, hg, r⟩
 · exact .inl h2
 · exact .inr ⟨g, cap, cur, hv, Nat.le_trans hb hg, r⟩
theorem abz {w : World} {base n size : Nat} {t t' : TypeId} {v : Value} {xs : List Value} {g : Nat} {o : Array Value} (h : w.ownsRow base t size v n xs) (hg : w.heap[g]? = some (.cells o t' (0, 0))) (ht : t ≠ t') : ∀ k, v.ownBlock = some k -> k ≠ g := fun k hk e => by
 subst e; rcases h.2 with ⟨rfl, _⟩ | ⟨g, cap, cur, rfl, _, hh, _⟩
 · cases hk
 · injection hk with hk; have hk : g = k := hk; subst hk; rw [hh] at hg; injection hg with hg; injection hg with _ hg _; exact ht hg
theorem own_lt {w : World} {base n size : Nat} {t : TypeId} {v : Value} {xs : List Value} (h : w.ownsRow base t size v n xs) {k : Nat} (hk : v.ownBlock = some k) : k < w.heap.size := (h.lt k hk).2
section
variable {F F' : Nat -> Prop} {w w' w2 : World} {p gl : Nat} {H H' : Hp} {Vb Vd : Value} {cs : List Value}
theorem Hm.lt (h : Hm F w p H Vb Vd gl cs) : p < w.heap.size := aab h.obj
theorem Hm.c0 (h : Hm F w p H Vb Vd gl cs) : w.cell? ⟨p, 0, none⟩ = some (.int .i64 (H.cap : Int)) := by rw [cell_of_row w p 0 _ _ (0, 0) h.obj]; rfl
theorem Hm.c1 (h : Hm F w p H Vb Vd gl cs) : w.cell? ⟨p, 1, none⟩ = some Vb := by rw [cell_of_row w p 1 _ _ (0, 0) h.obj]; rfl
theorem Hm.c2 (h : Hm F w p H Vb Vd gl cs) : w.cell? ⟨p, 2, none⟩ = some Vd := by rw [cell_of_row w p 2 _ _ (0, 0) h.obj]; rfl
theorem Hm.c3 (h : Hm F w p H Vb Vd gl cs) : w.cell? ⟨p, 3, none⟩ = some (.slice (some ⟨gl, 0, none⟩) 22 22) := by rw [cell_of_row w p 3 _ _ (0, 0) h.obj]; rfl
theorem Hm.thaw (h : Hm F w p H Vb Vd gl cs) (i : Nat) : w.frozen? ⟨p, i, none⟩ = false := frozen_of_row w p i _ _ h.obj
theorem Hm.keep (h : Hm F w p H Vb Vd gl cs) (hk : ∀ k, F k -> w'.heap[k]? = w.heap[k]?) : Hm F w' p H Vb Vd gl cs :=
 ⟨(hk p h.fp).trans h.obj, aaD h.ob (fun k e => hk k (h.fb k e)), aaD h.od (fun k e => hk k (h.fd k e)), (hk gl h.fl).trans h.row, h.len,
  fun d hd => by obtain ⟨v, h1, h2⟩ := h.at_ d hd; exact ⟨v, h1, aaD h2 (fun k e => hk k (h.fi d v k hd h1 e))⟩, h.fp, h.fl, h.fb, h.fd, h.fi, h.sl⟩
def aqm (p gl : Nat) (Vb Vd : Value) (cs : List Value) (k : Nat) : Prop := k = p \/ k = gl \/ Vb.ownBlock = some k \/ Vd.ownBlock = some k \/ ∃ d v, d < 22 /\ cs[d]? = some v /\ v.ownBlock = some k
theorem Hm.tight (h : Hm F w p H Vb Vd gl cs) : Hm (aqm p gl Vb Vd cs) w p H Vb Vd gl cs :=
 ⟨h.obj, h.ob, h.od, h.row, h.len, h.at_, .inl rfl, .inr (.inl rfl), fun _ e => .inr (.inr (.inl e)), fun _ e => .inr (.inr (.inr (.inl e))), fun d v _ hd h1 e => .inr (.inr (.inr (.inr ⟨d, v, hd, h1, e⟩))), h.sl⟩
theorem Hm.feetF (h : Hm F w p H Vb Vd gl cs) {k : Nat} (hk : aqm p gl Vb Vd cs k) : F k := by
 rcases hk with rfl | rfl | e | e | ⟨d, v, hd, h1, e⟩
 · exact h.fp
 · exact h.fl
 · exact h.fb k e
 · exact h.fd k e
 · exact h.fi d v k hd h1 e
theorem Hm.feet_lt (h : Hm F w p H Vb Vd gl cs) {k : Nat} (hk : aqm p gl Vb Vd cs k) : k < w.heap.size := by
 rcases hk with rfl | rfl | e | e | ⟨d, v, hd, h1, e⟩
 · exact h.lt
 · exact aab h.row
 · exact own_lt h.ob e
 · exact own_lt h.od e
 · obtain ⟨v', h1', h2⟩ := h.at_ d hd; rw [h1] at h1'; injection h1' with h1'; subst h1'; exact own_lt h2 e
theorem Hm.below (h : Hm F w p H Vb Vd gl cs) (hb : Below w.heap.size w w') : Hm F w' p H Vb Vd gl cs := by
 have h1 := h.tight.keep (w' := w') (fun k hk => hb.block k (h.feet_lt hk)); exact ⟨h1.obj, h1.ob, h1.od, h1.row, h1.len, h1.at_, h.fp, h.fl, h.fb, h.fd, h.fi, h.sl⟩
theorem HM.below (h : HM F w p H) (hb : Below w.heap.size w w') : HM F w' p H := by
 obtain ⟨Vb, Vd, gl, cs, h⟩ := h; exact ⟨Vb, Vd, gl, cs, h.below hb⟩
theorem HM.tch {S : Nat -> Prop} (h : HM F w p H) (ht : Tch S w w') (hd : ∀ k, F k -> ¬ S k) : HM F w' p H := by
 obtain ⟨Vb, Vd, gl, cs, h⟩ := h; have h1 := h.tight.keep (w' := w') (fun k hk => ht.block k (h.feet_lt hk) (hd k (h.feetF hk))); exact ⟨Vb, Vd, gl, cs, h1.obj, h1.ob, h1.od, h1.row, h1.len, h1.at_, h.fp, h.fl, h.fb, h.fd, h.fi, h.sl⟩
theorem HT.refl (h : HM F w p H) : HT F w p H w := ⟨F, h, Tch.refl _ _, fun _ hk => .inl hk⟩
theorem HT.of_below (h : HM F w p H) (hb : Below w.heap.size w w') : HT F w p H w' := ⟨F, h.below hb, Tch.of_below hb, fun _ hk => .inl hk⟩
theorem HT.after (hb : Below w.heap.size w w') (h : HT F w' p H' w2) : HT F w p H' w2 := by
 obtain ⟨F1, h1, t1, f1⟩ := h; exact ⟨F1, h1, (Tch.of_below hb).trans t1 (fun _ _ h => h), fun k hk => (f1 k hk).imp id (fun h => Nat.le_trans hb.size h)⟩
theorem ada {w : World} {n : Nat} {V : Value} {l : List Bk} (h : w.ownsRow 0 81 3 V n (aaU l)) {i : Nat} {x : Bk} (hx : l[i]? = some x) : ∃ b c, V = .slice (some ⟨b, 0, none⟩) n c /\ b < w.heap.size /\ n = l.length /\ n <= c /\ (w.cell? ⟨b, i * 3, none⟩ = some (.int .i64 (x.off : Int)) /\ w.cell? ⟨b, i * 3 + 1, none⟩ = some (.int .i64 (x.size : Int)) /\ w.cell? ⟨b, i * 3 + 2, none⟩ = some (.bool x.used)) /\ ∀ j, w.frozen? ⟨b, j, none⟩ = false := by
 have hi : i < l.length := by
  rcases Nat.lt_or_ge i l.length with h' | h'
  · exact h'
  · rw [List.getElem?_eq_none h'] at hx; cases hx
 have hn : n = l.length := by
  have h1 := h.1; rw [aeC] at h1; omega
 rcases h.2 with ⟨_, h0⟩ | ⟨b, c, cur, rfl, _, hh, hnc, _⟩
 · omega
 · obtain ⟨f0, f1, f2⟩ := ae2 l i x hx; refine ⟨b, c, rfl, aab hh, hn, hnc, ⟨?_, ?_, ?_⟩, fun j => frozen_of_row w b j _ _ hh⟩
   · rw [h.cellAt _ (by omega)]; exact f0
   · rw [h.cellAt _ (by omega)]; exact f1
   · rw [h.cellAt _ (by omega)]; exact f2
end
def ixV (x : Option Nat) : Int := match x with
 | some i => (i : Int)
 | none => -1
theorem amC (o : Int) (l : List Bk) (j : Nat) (x : Bk) (hx : l[j]? = some x) (h : atB o l = (atB o (l.drop j)).map (· + j)) :
 ((x.off : Int) = o -> atB o l = some j) /\ ((x.off : Int) ≠ o -> atB o l = (atB o (l.drop (j + 1))).map (· + (j + 1))) := by
 have hj : j < l.length := by
  rcases Nat.lt_or_ge j l.length with h' | h'
  · exact h'
  · rw [List.getElem?_eq_none h'] at hx; cases hx
 have e : l[j] = x := by rw [List.getElem?_eq_getElem hj] at hx; injection hx
 rw [List.drop_eq_getElem_cons hj, e] at h; refine ⟨fun hq => ?_, fun hq => ?_⟩
 · rw [h]; unfold atB; rw [if_pos hq]; simp
 · rw [h]; rw [atB, if_neg hq]
   cases atB o (l.drop (j + 1)) with
   | none => rfl
   | some k => simp; omega
theorem ahu {l : List Bk} {j : Nat} {x : Bk} (hx : l[j]? = some x) : abh (l.take (j + 1)) = abh (l.take j) + x.size := by
 rw [List.take_add_one, hx, adD]; simp [abh]
theorem alc (l : List Bk) (j : Nat) : abh (l.take j) <= abh l := by
 have : abh l = abh (l.take j) + abh (l.drop j) := by rw [<- adD, List.take_append_drop]
 omega
section
variable {F : Nat -> Prop} {w : World} {p gl : Nat} {H : Hp} {Vb Vd : Value} {cs : List Value}
theorem aa8 (h : Hm F w p H Vb Vd gl cs) (hl : lenB H.blks <= 100000) (hn : H.blks.length <= 100000) :
 Calls Tryz.prog 17 #[.pointer (some ⟨p, 0, none⟩)] w fun e w' => e = .returned (.int .i64 (lenB H.blks : Int)) /\ w = w' := by
 have c1 := h.c1; obtain ⟨A, c, rfl⟩ := aa0 h.ob; have HO := hE0 h.ob; obtain ⟨l, hL⟩ := nmE H.blks; obtain ⟨n, hN⟩ := nmE l.length; rw [hL] at HO hl hn c1 ⊢; rw [hN] at HO hn c1; unfold lenB at hl ⊢; have HN := hE0 hN; clear h hL hN; go_enter Tryz.func17, Tryz.ntmps17
 go_wp2
 go_loopw [3, 4] (fun s i wr => ∃ j : Nat, s = .int .i64 ((184 + abh (l.take j) : Nat) : Int) /\ i = .int .i64 (j : Int) /\ j <= n /\ w = wr) (fun _ i _ => n - (intOf i).toNat)
 case atStart => exact ⟨0, rfl, rfl, Nat.zero_le _, rfl⟩
 case round =>
  obtain ⟨j, rfl, rfl, hj, rfl⟩ := hrel; by_cases hlt : j < n
  · obtain ⟨x, hx⟩ : ∃ x, l[j]? = some x := ⟨l[j]'(by rw [HN.out]; exact hlt), List.getElem?_eq_getElem _⟩; obtain ⟨b, c', hV, hb, _, hnc, ⟨_, d1, _⟩, _⟩ := ada HO.out hx; injection hV with hV1 _ hV3; subst hV1 hV3; have hsum := ahu hx; have hle := alc l (j + 1); have hji : (j : Int) < (n : Int) := by omega
    obtain ⟨sz, hsz⟩ := nmE x.size; rw [hsz] at d1 hsum; generalize hsm : abh (l.take j) = sm at hsum ⊢; have HS := hE0 hsum; have hq : 184 + sm + sz <= 100000 := by omega
    clear hx hsum hsm hle hsz; go_wp2
    go_roundw
    case rel => exact ⟨j + 1, by rw [HS.out]; go_num, by go_num, by omega, trivial⟩
    case measure => simp only [intOf]; omega
  · obtain rfl : n = j := by omega
    have hle := alc l n; have e : abh (l.take n) = abh l := by rw [List.take_of_length_le (by rw [HN.out]; exact Nat.le_refl _)]
    have HE := hE0 e; clear e; go_wp2
    go_ret
    exact ⟨amf (by rw [HE.out]), rfl⟩
theorem acc (h : Hm F w p H Vb Vd gl cs) (hn : H.blks.length <= 100000) (o : Int) (ho : -9223372036854775808 <= o /\ o <= 9223372036854775807) (x : Option Nat) (hx : atB o H.blks = x) :
 Calls Tryz.prog 65 #[.pointer (some ⟨p, 0, none⟩), .int .i64 o] w fun e w' => e = .returned (.int .i64 (ixV x)) /\ w = w' := by
 have c1 := h.c1; obtain ⟨A, c, rfl⟩ := aa0 h.ob; have HO := hE0 h.ob; obtain ⟨l, hL⟩ := nmE H.blks; obtain ⟨n, hN⟩ := nmE l.length; rw [hL] at HO hn hx c1; rw [hN] at HO hn c1; have HN := hE0 hN; have HX := hE0 hx; clear h hL hN hx; go_enter Tryz.func65, Tryz.ntmps65
 go_wp2
 go_loopw [5] (fun i wr => ∃ j : Nat, i = .int .i64 (j : Int) /\ j <= n /\ atB o l = (atB o (l.drop j)).map (· + j) /\ w = wr) (fun i _ => n - (intOf i).toNat)
 case atStart => exact ⟨0, rfl, Nat.zero_le _, by simp, rfl⟩
 case round =>
  obtain ⟨j, rfl, hj, hat, rfl⟩ := hrel; by_cases hlt : j < n
  · obtain ⟨y, hy⟩ : ∃ y, l[j]? = some y := ⟨l[j]'(by rw [HN.out]; exact hlt), List.getElem?_eq_getElem _⟩; obtain ⟨b, c', hV, hb, _, hnc, ⟨d0, _, _⟩, _⟩ := ada HO.out hy; injection hV with hV1 _ hV3; subst hV1 hV3; have had := amC o l j y hy hat; have hji : (j : Int) < (n : Int) := by omega
    obtain ⟨yo, hyo⟩ := nmE y.off; rw [hyo] at d0 had; clear hy hat hyo; by_cases hq : (yo : Int) = o
    · have e : x = some j := by rw [<- HX.out]; exact had.1 hq
      subst e; clear had HX; subst hq; go_wp2
      go_ret
      exact ⟨rfl, rfl⟩
    · have hq2 : ((yo : Int) == o) = false := by rw [beq_eq_false_iff_ne]; exact hq
      have HA := hE0 (had.2 hq); clear had hq; go_wp2
      go_roundw
      case rel => exact ⟨j + 1, by go_num, by omega, HA.out, trivial⟩
      case measure => simp only [intOf]; omega
  · have e : x = none := by
     rw [<- HX.out, hat, List.drop_of_length_le (by rw [HN.out]; omega)]; rfl
    subst e; clear hat HX; go_wp2
    go_ret
    exact ⟨rfl, rfl⟩
theorem abq (h : Hm F w p H Vb Vd gl cs) (hn : H.blks.length <= 100000) (o : Int) (ho : -9223372036854775808 <= o /\ o <= 9223372036854775807) (x : Option Nat) (hx : aaK H.blks o = x) :
 Calls Tryz.prog 67 #[.pointer (some ⟨p, 0, none⟩), .int .i64 o] w fun e w' => e = .returned (.int .i64 (ixV x)) /\ w = w' := by
 cases ha : atB o H.blks with
 | none =>
  obtain rfl : none = x := by rw [<- hx]; unfold aaK; rw [ha]
  have HA := hE0 (acc h hn o ho _ ha); dsimp only [ixV] at HA; clear ha hx; go_enter Tryz.func67, Tryz.ntmps67
  go_wp2_with fail
  refine HA.out.mono ?_; rintro e w' ⟨rfl, rfl⟩; go_wp2
  go_ret
  exact ⟨rfl, rfl⟩
 | some i =>
  have HA := hE0 (acc h hn o ho _ ha); dsimp only [ixV] at HA; obtain ⟨hi, _⟩ := abs ha; have hget := aax hi; obtain ⟨b, c, rfl, hb, _, hnc, ⟨_, _, d2⟩, _⟩ := ada h.ob hget; have c1 := h.c1; have hxx : (if (aag H.blks i).used = true then some i else none) = x := by rw [<- hx]; unfold aaK; rw [ha]
  obtain ⟨u, hu⟩ := nmE ((aag H.blks i).used); rw [hu] at d2 hxx; have hii : (i : Int) < (H.blks.length : Int) := by omega
  obtain ⟨n, hN⟩ := nmE H.blks.length; rw [hN] at *; clear hx ha hget hu h hN
  cases u with
  | true =>
   obtain rfl : some i = x := by rw [<- hxx]; simp
   clear hxx; go_enter Tryz.func67, Tryz.ntmps67
   go_wp2_with fail
   refine HA.out.mono ?_; rintro e w' ⟨rfl, rfl⟩; go_wp2
   go_ret
   exact ⟨rfl, rfl⟩
  | false =>
   obtain rfl : none = x := by rw [<- hxx]; simp
   clear hxx; go_enter Tryz.func67, Tryz.ntmps67
   go_wp2_with fail
   refine HA.out.mono ?_; rintro e w' ⟨rfl, rfl⟩; go_wp2
   go_ret
   exact ⟨rfl, rfl⟩
end
section
variable {F : Nat -> Prop} {w w' : World} {p gl : Nat} {H : Hp} {Vb Vd : Value} {cs : List Value}
theorem Hm.lset (h : Hm F w p H Vb Vd gl cs) {d : Nat} (hd : d < 22) (v : Value) (l : List Nat) (hown : w.ownsRow 0 3 1 v l.length (l.map iV)) :
 Hm (fun k => F k \/ v.ownBlock = some k) (w.setCell ⟨gl, d, none⟩ v) p { H with lists := adj H.lists d l } Vb Vd gl (cs.set d v) := by
 have hk : ∀ k, k ≠ gl -> (w.setCell ⟨gl, d, none⟩ v).heap[k]? = w.heap[k]? := fun k hk => Below.heap_setCell w ⟨gl, d, none⟩ v k hk; have hpg : p ≠ gl := fun e => by
  have h1 := h.obj; rw [e, h.row] at h1; injection h1 with h1; injection h1 with _ h1 _; exact absurd h1 (by decide)
 refine ⟨(hk p hpg).trans h.obj, aaD h.ob (fun k e => hk k (abz h.ob h.row (by decide) k e)), aaD h.od (fun k e => hk k (abz h.od h.row (by decide) k e)), ?_, by rw [List.length_set]; exact h.len, fun e he => ?_, .inl h.fp, .inl h.fl, fun k e => .inl (h.fb k e), fun k e => .inl (h.fd k e), fun e u k he hu hk => ?_, h.sl⟩
 · have := heap_setCell_same w gl d _ _ v h.row; rw [this]; simp
 · by_cases hed : e = d
   · subst hed; refine ⟨v, by rw [List.getElem?_set_self (by rw [h.len]; exact hd)], ?_⟩; have e2 : adj H.lists e l e = l := by simp [adj]
     dsimp only; rw [e2]; exact aaD hown (fun k e => hk k (abz hown h.row (by decide) k e))
   · obtain ⟨u, h1, h2⟩ := h.at_ e he; have e2 : adj H.lists d l e = H.lists e := by simp [adj, hed]
     refine ⟨u, by rw [List.getElem?_set_ne (fun h => hed h.symm)]; exact h1, ?_⟩; dsimp only; rw [e2]; exact aaD h2 (fun k e => hk k (abz h2 h.row (by decide) k e))
 · by_cases hed : e = d
   · subst hed; rw [List.getElem?_set_self (by rw [h.len]; exact hd)] at hu; injection hu with hu; subst hu; exact .inr hk
   · rw [List.getElem?_set_ne (fun h => hed h.symm)] at hu; exact .inl (h.fi e u k he hu hk)
theorem Hm.lcell (h : Hm F w p H Vb Vd gl cs) {d : Nat} (hd : d < 22) : ∃ A c, w.cell? ⟨gl, d, none⟩ = some (.slice A (H.lists d).length c) /\ w.ownsRow 0 3 1 (.slice A (H.lists d).length c) (H.lists d).length ((H.lists d).map iV) := by
 obtain ⟨v, h1, h2⟩ := h.at_ d hd; obtain ⟨A, c, rfl⟩ := aa0 h2; refine ⟨A, c, ?_, h2⟩; rw [cell_of_row w gl d _ _ (0, 0) h.row]; simpa using h1
theorem ald {A : Option Addr} {c : Nat} {l : List Nat} (h : w.ownsRow 0 3 1 (.slice A l.length c) l.length (l.map iV)) : Rw (fun _ => False) w A l /\ (A = none -> c = 0) := apA h rfl (fun _ _ => id)
theorem apB {S : Nat -> Prop} {A : Option Addr} {c : Nat} {l : List Nat} (h : Rw S w A l) (hA : A = none -> c = 0) : Src w A l.length c (l.map iV) := by
 refine ⟨fun e => ?_, fun ad e => by subst e; exact ajk h⟩; subst e; have h0 : l.length = 0 := by
  rcases Nat.eq_zero_or_pos l.length with h0 | h0
  · exact h0
  · obtain ⟨_, _, e, _⟩ := h h0
    cases e
 obtain rfl : l = [] := List.eq_nil_of_length_eq_zero h0; exact ⟨rfl, hA rfl, rfl⟩
theorem acS (h : Hm F w p H Vb Vd gl cs) (i : Nat) (hi : i < H.blks.length) (hs : aaG ((aag H.blks i).size : Int) = true) (hll : ∀ d, d < 22 -> (H.lists d).length <= 100000) :
 Calls Tryz.prog 49 #[.pointer (some ⟨p, 0, none⟩), .int .i64 (i : Int)] w fun e w' => e = .returned (.tuple #[]) /\ HT F w p (H.in_ i) w' := by
 obtain ⟨cl, hcl, hcl22⟩ := abb hs; have hget := aax hi; have hIN : H.in_ i = { H with lists := adj H.lists cl ((aag H.blks i).off :: H.lists cl) } := by
  unfold Hp.in_ adU; rw [hcl, Int.toNat_natCast]
 rw [hIN]; obtain ⟨b, c, rfl, hb, _, hnc, ⟨d0, d1, _⟩, _⟩ := ada h.ob hget; have hss := (aac _).1 hs; have c1 := h.c1; have hii : (i : Int) < (H.blks.length : Int) := by omega
 have hplt := h.lt; obtain ⟨xo, hxo⟩ := nmE ((aag H.blks i).off); obtain ⟨xs, hxs⟩ := nmE ((aag H.blks i).size); rw [hxo] at d0 ⊢; rw [hxs] at d1 hcl hss; obtain ⟨wd, hwd⟩ := nmE w.drew; have hd := h.below (w' := wd) (by rw [<- hwd]; exact (Below.refl _ _).drew); have hsz : w.heap.size = wd.heap.size := by rw [<- hwd]; rfl
 have hbd := adE hwd; obtain ⟨A, cc, hcell, hlo⟩ := hd.lcell hcl22; have hrw := ald hlo; have hgl := aab hd.row; have hci : (cl : Int) < 22 := by omega
 have HL := hE0 (hll cl hcl22); have HD := hE0 hd; have HWD := hE0 hwd; have HRW := hE0 hrw; have HBD := hE0 hbd; have HCL := hE0 (fun W => aem W (xs : Int) (by omega) (cl : Int) hcl); have HSZ := hE0 hsz; have e0 := (World.cell?_of_block (w := w) (w' := wd) (a := ⟨b, i * 3, none⟩) (by rw [<- hwd]; rfl)).trans d0; have e1 := (World.cell?_of_block (w := w) (w' := wd) (a := ⟨p, 1, none⟩) (by rw [<- hwd]; rfl)).trans c1; have e3 := hd.c3; have hbd' : b < wd.heap.size := by omega
 have hpd' : p < wd.heap.size := by omega
 obtain ⟨n, hN⟩ := nmE H.blks.length; rw [hN] at c1 e1 hii hnc; obtain ⟨LL, hLL⟩ := nmE (H.lists cl); rw [hLL] at HL HRW hcell; have HLL := hE0 hLL; clear hxo hxs hwd hd hbd hrw hget hs hcl hIN hlo h hsz hN hll; go_enter Tryz.func49, Tryz.ntmps49
 go_wp2_with fail
 refine (HCL.out _).mono ?_; rintro e w2 ⟨rfl, rfl⟩; clear HCL d0 d1 c1; go_wp2_with fail
 refine aan wd.heap.size (.one [0, 1, 2, 3, 4, 5, 6, 7, 8, 9, 10, 11, 12, 14, 15, 16, 17, 18, 19, 20] 13 (.one [] 21 (.fin [22]))) [23] (by kernel_rfl) (by kernel_rfl) (by kernel_rfl) (fun _ _ _ _ _ h => h) ?_; rw [HWD.out]; have t0 : ∀ z : LaterB wd.heap.size wd, z.val.cell? ⟨b, i * 3, none⟩ = some (.int .i64 (xo : Int)) := fun z => (z.ext.cell (p := ⟨b, i * 3, none⟩) hbd').trans e0; have t1 : ∀ z : LaterB wd.heap.size wd, z.val.cell? ⟨p, 1, none⟩ = some (.slice (some ⟨b, 0, none⟩) n c) := fun z => (z.ext.cell (p := ⟨p, 1, none⟩) hpd').trans e1; have t3 : ∀ z : LaterB wd.heap.size wd, z.val.cell? ⟨p, 3, none⟩ = some (.slice (some ⟨gl, 0, none⟩) 22 22) := fun z => (z.ext.cell (p := ⟨p, 3, none⟩) hpd').trans e3; have t4 := tfE hcell hgl; refine aau (l := ?seg1) ?hseg1 ?_
 case hseg1 => simp only [pick, lE1, lE2, lE3]; rfl
 repeat (go_big_quiet_step (fail))
 refine wpQuiet_nil ?_; clear t0 t1 t3 t4; obtain ⟨w6, hw6⟩ := nmE (wd.alloc (.cells #[.int .i64 (xo : Int)] 3)); have b6 := abE hw6; have own6 : w6.ownsRow wd.heap.size 3 1 (.slice (some ⟨wd.heap.size, 0, none⟩) 1 1) 1 ([xo].map iV) := by rw [<- hw6]; exact aoC wd xo
 refine aaA (some 27) (w1 := w6) (v := .slice (some ⟨wd.heap.size, 0, none⟩) 1 1) rfl rfl rfl (by rw [<- hw6]; exact aaw rfl rfl (ain wd (xo : Int))) b6 ⟨wd.heap.size, Nat.le_refl _, ?_⟩; have OWN6 := hE0 own6; have HB6 := hE0 b6; have b6s := b6.size; have HRW6 := hE0 (HRW.out.1.keep (w' := w6) (S' := fun _ => False) b6.size (fun k hk hn => ⟨b6.block k hk, hn⟩)); have HCELL := hE0 hcell; clear own6 b6 hw6 hcell HWD e0 e1 e3; simp only [Act.put, lE4, lE5, lE6]; refine aau (l := []) rfl ?_; refine wpQuiet_nil ?_; refine aaQ (some 35) (.tmp 27) (.tmp 34) 86 3 rfl rfl rfl rfl Tryz.underlying86 (.int .i64 0) 1 8 agu rfl (by decide) wd.heap.size (.slice (some ⟨wd.heap.size, 0, none⟩) 1 1) 1 ([xo].map iV) rfl OWN6.out (Nat.le_refl _) b6s A LL.length cc (LL.map iV) rfl (by simp) (apB HRW6.out HRW.out.2) (anT LL) (by have := HL.out; omega) (by omega) ?_; intro x7 w7 own7 hb7 gr7; have HB7 : Hid (Below wd.heap.size wd w7) := HB6.out.trans hb7; have OWN7 : Hid (w7.ownsRow wd.heap.size 3 1 x7 (1 + LL.length) ((xo :: LL).map iV)) := own7; refine ⟨wd.heap.size, Nat.le_refl _, ?_⟩; clear own7 gr7 hb7; obtain ⟨A7', c7', rfl⟩ := aa0 OWN7.out; have HD7 := hE0 (HD.out.below HB7.out); have q3 : w7.cell? ⟨gl, cl, none⟩ = some (.slice A LL.length cc) := by
  have h2 := (HB7.out.cell (p := ⟨gl, cl, none⟩) hgl); rw [h2]; exact HCELL.out
 have f3 := frozen_of_row w7 gl cl _ _ HD7.out.row; have hg7 := aab HD7.out.row; refine aaO (l := ?laP) (t := ?tlP) ?hlaP ?htlP ?_
 case hlaP => simp only [pick, lE1, lE2, lE3]; rfl
 case htlP => simp only [pick, lE1, lE2, lE3]; rfl
 simp only [Act.put, lE4, lE5, lE6]; repeat (go_big_quiet_step (fail))
 refine wpQuiet_nil ?_; go_wp2
 go_end0
 refine ⟨rfl, ?_⟩; have hown := aaI OWN7.out (Nat.zero_le _); have e8 : (xo :: LL).length = 1 + LL.length := by rw [List.length_cons, Nat.add_comm]
 have h8 := HD7.out.lset hcl22 (.slice A7' (1 + LL.length) c7') (xo :: LL) (by rw [e8]; exact hown); rw [HLL.out]; refine ⟨_, ⟨_, _, _, _, h8⟩, ?_, fun k hk => ?_⟩
 · exact ((Tch.of_below (S := F) (HBD.out.trans (by rw [HSZ.out]; exact HB7.out))).trans (Tch.set w7 ⟨gl, cl, none⟩ _ HD7.out.fl) (fun _ _ h => h))
 · exact hk.imp id (fun e => by have := (OWN7.out.lt k e).1; have := HSZ.out; omega)
theorem abA (h : Hm F w p H Vb Vd gl cs) (i : Nat) (hi : i < H.blks.length) (hs : aaG ((aag H.blks i).size : Int) = true) (hll : ∀ d, d < 22 -> (H.lists d).length <= 100000) :
 Calls Tryz.prog 68 #[.pointer (some ⟨p, 0, none⟩), .int .i64 (i : Int)] w fun e w' => e = .returned (.tuple #[]) /\ HT F w p (H.out i) w' := by
 obtain ⟨cl, hcl, hcl22⟩ := abb hs; have hget := aax hi; have hIN : H.out i = { H with lists := adj H.lists cl ((H.lists cl).filter fun o => o != (aag H.blks i).off) } := by
  unfold Hp.out adU; rw [hcl, Int.toNat_natCast]
 rw [hIN]; obtain ⟨b, c, rfl, hb, _, hnc, ⟨d0, d1, _⟩, _⟩ := ada h.ob hget; have hss := (aac _).1 hs; have c1 := h.c1; have c3 := h.c3; have hii : (i : Int) < (H.blks.length : Int) := by omega
 have hplt := h.lt; obtain ⟨xo, hxo⟩ := nmE ((aag H.blks i).off); obtain ⟨xs, hxs⟩ := nmE ((aag H.blks i).size); rw [hxo] at d0 ⊢; rw [hxs] at d1 hcl hss; obtain ⟨A, cc, hcell, hlo⟩ := h.lcell hcl22; have hrw := ald hlo; have hgl := aab h.row; have hci : (cl : Int) < 22 := by omega
 have HL := hE0 (hll cl hcl22); have HH := hE0 h; have HCL := hE0 (fun W => aem W (xs : Int) (by omega) (cl : Int) hcl); obtain ⟨n, hN⟩ := nmE H.blks.length; rw [hN] at c1 hii hnc; obtain ⟨LL, hLL⟩ := nmE (H.lists cl); obtain ⟨M, hM⟩ := nmE LL.length; rw [hLL] at HL hrw hcell; rw [hM] at HL hcell; have HLL := hE0 hLL; have HM := hE0 hM; have HRW := hE0 hrw; obtain ⟨B5, hB5⟩ := nmE w.heap.size; have HB5 := hE0 hB5; have HCS : Hid (∀ W, Below B5 w W -> W.cell? ⟨b, i * 3, none⟩ = some (.int .i64 (xo : Int)) /\ W.cell? ⟨p, 1, none⟩ = some (.slice (some ⟨b, 0, none⟩) n c) /\ W.cell? ⟨p, 3, none⟩ = some (.slice (some ⟨gl, 0, none⟩) 22 22) /\ W.cell? ⟨gl, cl, none⟩ = some (.slice A M cc)) := fun W h' => ⟨(h'.cell (p := ⟨b, _, none⟩) (by rw [<- hB5]; exact hb)).trans d0, (h'.cell (p := ⟨p, _, none⟩) (by rw [<- hB5]; exact hplt)).trans c1, (h'.cell (p := ⟨p, _, none⟩) (by rw [<- hB5]; exact hplt)).trans c3, (h'.cell (p := ⟨gl, _, none⟩) (by rw [<- hB5]; exact hgl)).trans hcell⟩; clear hxo hxs hrw hget hs hcl hIN hlo h hN hll hLL hM hB5 hcell; go_enter Tryz.func68, Tryz.ntmps68
 go_wp2_with fail
 refine (HCL.out _).mono ?_; rintro e w2 ⟨rfl, rfl⟩; clear HCL d0 d1 c1 c3; go_wp2
 go_loopw [5, 6] (fun q i wr => ∃ (m r : Nat) (G : List Nat), i = .int .i64 (m : Int) /\ m <= M /\ G.length = r /\ G = (LL.take m).filter (fun o => o != xo) /\ wr.ownsRow B5 3 1 q r (G.map iV) /\ Below B5 w wr) (fun _ i _ => M - (intOf i).toNat)
 case atStart => exact ⟨0, 0, [], rfl, Nat.zero_le _, rfl, rfl, World.ownsRow_nil _ _ _ _, Below.refl _ _⟩
 case round =>
  obtain ⟨m, r, G, rfl, hm, hGr, hG, hown, hb9⟩ := hrel; obtain ⟨A9, c9, rfl⟩ := aa0 hown; have hBw : B5 <= wr.heap.size := by have := hb9.size; have := HB5.out; omega
  obtain ⟨_, k1, k3, k4⟩ := HCS.out wr hb9; have hM100 := HL.out; by_cases hlt : m < M
  · have hmi : (m : Int) < (M : Int) := by omega
    obtain ⟨y, hy⟩ : ∃ y, LL[m]? = some y := ⟨LL[m]'(by rw [HM.out]; exact hlt), List.getElem?_eq_getElem _⟩; obtain ⟨bd, od, rfl, hbd, _, hcd⟩ := HRW.out.1 (by rw [HM.out]; omega); have hyc := hcd m y hy; have hrM : r <= M := by rw [<- hGr, hG]; exact Nat.le_trans (List.length_filter_le _ _) (by rw [List.length_take]; omega)
    obtain ⟨wd, hwd⟩ := nmE wr.drew; have hbd1 : Below B5 w wd := by rw [<- hwd]; exact hb9.drew
    have ownd := aay hown (w' := wd) (by rw [<- hwd]; exact (Below.refl _ _).drew); have hwdB : B5 <= wd.heap.size := by rw [<- hwd]; exact hBw
    have HYC : Hid (∀ W, Below B5 w W -> W.cell? ⟨bd, od + m, none⟩ = some (.int .i64 (y : Int))) := fun W h' => (h'.cell (p := ⟨bd, od + m, none⟩) (by rw [<- HB5.out]; exact hbd)).trans hyc; have hfs : (LL.take (m + 1)).filter (fun o => o != xo) = if y = xo then G else G ++ [y] := by
     rw [List.take_add_one, hy, List.filter_append, hG]; by_cases e : y = xo
     · simp [e]
     · simp [e]
    have HFS := hE0 hfs; have HGR := hE0 hGr; have HWD := hE0 hwd; have HBD := hE0 hbd1; have OWND := hE0 ownd; have HALT : Hid (∀ k, (Value.slice A9 r c9).ownBlock = some k -> B5 <= k /\ k < wd.heap.size) := ownd.lt; clear hy hbd hcd hyc hfs hGr hG hwd hbd1 ownd hown hb9; by_cases hyx : y = xo
    · have hq1 : ((y : Int) != (xo : Int)) = false := by rw [bne_eq_false_iff_eq]; omega
      go_wp2_with fail
      refine aaf wd.heap.size [] [0, 1, 2, 3, 4, 5, 6, 7, 8, 9, 10, 11, 12, 13, 14, 15, 16, 17, 18] [] (by kernel_rfl) (by kernel_rfl) (by kernel_rfl) (fun _ _ _ _ _ h => h) ?_; rw [HWD.out]; have t0 : ∀ z : LaterB wd.heap.size wd, z.val.cell? ⟨bd, od + m, none⟩ = some (.int .i64 (y : Int)) := fun z => HYC.out z.val (HBD.out.trans (z.ext.mono hwdB)); have t1 : ∀ z : LaterB wd.heap.size wd, z.val.cell? ⟨gl, cl, none⟩ = some (.slice (some ⟨bd, od, none⟩) M cc) := fun z => (HCS.out z.val (HBD.out.trans (z.ext.mono hwdB))).2.2.2; have t2 : ∀ z : LaterB wd.heap.size wd, z.val.cell? ⟨b, i * 3, none⟩ = some (.int .i64 (xo : Int)) := fun z => (HCS.out z.val (HBD.out.trans (z.ext.mono hwdB))).1; have t3 : ∀ z : LaterB wd.heap.size wd, z.val.cell? ⟨p, 1, none⟩ = some (.slice (some ⟨b, 0, none⟩) n c) := fun z => (HCS.out z.val (HBD.out.trans (z.ext.mono hwdB))).2.1; have t4 : ∀ z : LaterB wd.heap.size wd, z.val.cell? ⟨p, 3, none⟩ = some (.slice (some ⟨gl, 0, none⟩) 22 22) := fun z => (HCS.out z.val (HBD.out.trans (z.ext.mono hwdB))).2.2.1; refine aap (l := ?laF1) (t := []) ?hlaF1 ?htlF1 ?_
      case hlaF1 => simp only [pick, lE1, lE2, lE3]; rfl
      case htlF1 => rfl
      repeat (go_big_quiet_step (fail))
      refine wpQuiet_nil ?_; clear t0 t1 t2 t3 t4 k1 k3 k4; go_wp2
      go_roundw
      case rel => exact ⟨m + 1, r, G, by go_num, by omega, HGR.out, by rw [HFS.out, if_pos hyx], OWND.out, HBD.out⟩
      case measure => simp only [intOf]; omega
    · have hq1 : ((y : Int) != (xo : Int)) = true := by rw [bne_iff_ne]; omega
      go_wp2_with fail
      refine aaf wd.heap.size [] [0, 1, 2, 3, 4, 5, 6, 7, 8, 9, 10, 11, 12, 13, 14, 15, 16, 17, 18] [] (by kernel_rfl) (by kernel_rfl) (by kernel_rfl) (fun _ _ _ _ _ h => h) ?_; rw [HWD.out]; have t0 : ∀ z : LaterB wd.heap.size wd, z.val.cell? ⟨bd, od + m, none⟩ = some (.int .i64 (y : Int)) := fun z => HYC.out z.val (HBD.out.trans (z.ext.mono hwdB)); have t1 : ∀ z : LaterB wd.heap.size wd, z.val.cell? ⟨gl, cl, none⟩ = some (.slice (some ⟨bd, od, none⟩) M cc) := fun z => (HCS.out z.val (HBD.out.trans (z.ext.mono hwdB))).2.2.2; have t2 : ∀ z : LaterB wd.heap.size wd, z.val.cell? ⟨b, i * 3, none⟩ = some (.int .i64 (xo : Int)) := fun z => (HCS.out z.val (HBD.out.trans (z.ext.mono hwdB))).1; have t3 : ∀ z : LaterB wd.heap.size wd, z.val.cell? ⟨p, 1, none⟩ = some (.slice (some ⟨b, 0, none⟩) n c) := fun z => (HCS.out z.val (HBD.out.trans (z.ext.mono hwdB))).2.1; have t4 : ∀ z : LaterB wd.heap.size wd, z.val.cell? ⟨p, 3, none⟩ = some (.slice (some ⟨gl, 0, none⟩) 22 22) := fun z => (HCS.out z.val (HBD.out.trans (z.ext.mono hwdB))).2.2.1; refine aap (l := ?laF2) (t := []) ?hlaF2 ?htlF2 ?_
      case hlaF2 => simp only [pick, lE1, lE2, lE3]; rfl
      case htlF2 => rfl
      repeat (go_big_quiet_step (fail))
      refine wpQuiet_nil ?_; clear t0 t1 t2 t3 t4 k1 k3 k4; have HY0 := HYC.out wd HBD.out; obtain ⟨_, k1, k3, k4⟩ := HCS.out wd HBD.out; obtain ⟨w6, hw6⟩ := nmE (wd.alloc (.cells #[.int .i64 (y : Int)] 3)); have b6 := abE hw6; have n6 := anE hw6; have own6 := aay OWND.out b6; have hr6 : Rw (fun _ => False) w6 (some ⟨wd.heap.size, 0, none⟩) [y] := fun _ => ⟨wd.heap.size, 0, rfl, aab n6, id, fun j x hx => by
       rw [Nat.zero_add, cell_of_row w6 _ j _ _ (0, 0) n6]; match j, hx with
       | 0, hx => simp at hx; subst hx; rfl⟩
      have h6B : B5 <= w6.heap.size := Nat.le_trans hwdB b6.size; have OWN6 := hE0 own6; have HR6 := hE0 hr6; have HB6 := hE0 (HBD.out.trans (b6.mono hwdB)); have HW6 := hE0 hw6; clear own6 hr6 b6 n6 hw6; go_wp2_with (first
       | (rw [HW6.out])
       | (at_builtin; go_must (refine aio rfl _ _ rfl B5 _ r G rfl OWN6.out (fun _ => False) (some ⟨wd.heap.size, 0, none⟩) 1 [y] rfl HR6.out (fun h => by cases h) (by rw [List.length_singleton]; omega) h6B ?_); intro x7 w7 own7 gr7;
          have HB7 : Hid (Below B5 w w7) := HB6.out.grown gr7 h6B (fun k hk => (HALT.out k hk).1); have OWN7 : Hid (w7.ownsRow B5 3 1 x7 (r + 1) ((G ++ [y]).map iV)) := own7; clear own7 gr7)
       | fail)
      go_roundw
      case rel => exact ⟨m + 1, r + 1, G ++ [y], by go_num, by omega, by rw [List.length_append, List.length_singleton, HGR.out], by rw [HFS.out, if_neg hyx], OWN7.out, HB7.out⟩
      case measure => simp only [intOf]; omega
  · obtain rfl : M = m := by omega
    rw [List.take_of_length_le (Nat.le_of_eq HM.out)] at hG; have h9 := HH.out.below (w' := wr) (by rw [HB5.out]; exact hb9); have f3 := frozen_of_row wr gl cl _ _ h9.row; have hset := h9.lset hcl22 (.slice A9 r c9) G (by rw [hGr]; exact aaI hown (Nat.zero_le _)); have hto : HT F w p { H with lists := adj H.lists cl G } (wr.setCell ⟨gl, cl, none⟩ (.slice A9 r c9)) := by
     refine ⟨_, ⟨_, _, _, _, hset⟩, ?_, fun k hk => ?_⟩
     · exact (Tch.of_below (S := F) (by rw [HB5.out]; exact hb9)).trans (Tch.set wr ⟨gl, cl, none⟩ _ h9.fl) (fun _ _ h => h)
     · exact hk.imp id (fun e => by have := (hown.lt k e).1; have := HB5.out; omega)
    rw [hG] at hto; have HTO := hE0 hto; clear hto hset h9 hG hGr hown hb9; go_wp2
    go_end0
    exact ⟨rfl, by rw [HLL.out]; exact HTO.out⟩
end
theorem acG : (Tryz.prog.info? 36).map (fun i => (i.zero, i.size, i.bytes)) = some (some (.slice none 0 0), 1, 24) := by kernel_rfl
theorem acd (w : World) : (Instr.buildSlice 54 0 #[]).run Tryz.prog w = .ok (.slice (some ⟨w.heap.size, 0, none⟩) 0 0) (w.alloc (.cells #[] 81)) := by
 simp [go_sem]
theorem ace (w : World) : (Instr.buildSlice 55 0 #[]).run Tryz.prog w = .ok (.slice (some ⟨w.heap.size, 0, none⟩) 0 0) (w.alloc (.cells #[] 36)) := by
 simp [go_sem]
theorem acf : ∀ (l : List Bk) (i : Nat), aaU (l.take i) = (aaU l).take (i * 3)
 | [], i => by simp [aaU]
 | x :: r, 0 => by simp [aaU]
 | x :: r, i + 1 => by
  have e : (i + 1) * 3 = i * 3 + 1 + 1 + 1 := by omega
  rw [e]; simp [aaU, acf r i]
theorem acg : ∀ (l : List Bk) (i : Nat), aaU (l.drop i) = (aaU l).drop (i * 3)
 | [], i => by simp [aaU]
 | x :: r, 0 => by simp
 | x :: r, i + 1 => by
  have e : (i + 1) * 3 = i * 3 + 1 + 1 + 1 := by omega
  rw [e]; simp [aaU, acg r i]
theorem abG (l : List Bk) : ∀ u ∈ aaU l, u.oneCell' = true := by
 induction l with
 | nil => intro u hu; cases hu
 | cons x r ih =>
  intro u hu; simp only [aaU, List.mem_cons] at hu; rcases hu with rfl | rfl | rfl | hu
  · rfl
  · rfl
  · rfl
  · exact ih u hu
theorem adh {l : List Dt} (h : ∀ d ∈ l, ∃ A n c, d.1 = Value.slice A n c) : ∀ u ∈ l.map Prod.fst, u.oneCell' = true := by
 intro u hu; obtain ⟨d, hd, rfl⟩ := List.mem_map.1 hu; obtain ⟨A, n, c, e⟩ := h d hd; rw [e]; rfl
theorem apC (b k j : Nat) : (⟨b, k, none⟩ : Addr).add j = ⟨b, k + j, none⟩ := by unfold Addr.add; split <;> simp_all
theorem aaX {w : World} {base n c size b : Nat} {t : TypeId} {xs : List Value} (h : w.ownsRow base t size (.slice (some ⟨b, 0, none⟩) n c) n xs) (k m : Nat) (hkm : k + m <= n) (A : Addr) (hA : m = 0 \/ A = ⟨b, k * size, none⟩) : Src w (some A) m c ((xs.drop (k * size)).take (m * size)) := by
 refine ⟨fun e => (by cases e), fun ad e j u hu => ?_⟩; injection e with e; subst e; rcases hA with rfl | rfl
 · simp at hu
 · rw [apC]; have hlen : j < m * size := by
    rcases Nat.lt_or_ge j (m * size) with h1 | h1
    · exact h1
    · rw [List.getElem?_eq_none (Nat.le_trans (List.length_take_le _ _) h1)] at hu; cases hu
   rw [List.getElem?_take, if_pos hlen, List.getElem?_drop] at hu; have h2 : k * size + m * size <= n * size := by rw [<- Nat.add_mul]; exact Nat.mul_le_mul_right _ hkm
   rw [h.cellAt _ (by omega)]; exact hu
theorem Src.cap {w : World} {A : Addr} {m c c' : Nat} {xs : List Value} (h : Src w (some A) m c xs) : Src w (some A) m c' xs := ⟨fun e => (by cases e), h.2⟩
section
variable {F : Nat -> Prop} {w w' : World} {p gl : Nat} {H : Hp} {Vb Vd : Value} {cs : List Value}
theorem amD (w : World) (p i : Nat) (v : Value) : ∀ k, k ≠ p -> (w.setCell ⟨p, i, none⟩ v).heap[k]? = w.heap[k]? := fun k hk => Below.heap_setCell w ⟨p, i, none⟩ v k hk
theorem Hm.p_gl (h : Hm F w p H Vb Vd gl cs) : gl ≠ p := fun e => by
 have h1 := h.obj; rw [<- e, h.row] at h1; injection h1 with h1; injection h1 with _ h1 _; exact absurd h1 (by decide)
theorem Hm.bset (h : Hm F w p H Vb Vd gl cs) (V : Value) (l : List Bk) (hown : w.ownsRow 0 81 3 V l.length (aaU l)) :
 Hm (fun k => F k \/ V.ownBlock = some k) (w.setCell ⟨p, 1, none⟩ V) p { H with blks := l } V Vd gl cs := by
 have hk := amD w p 1 V; refine ⟨?_, aaD hown (fun k e => hk k (abz hown h.obj (by decide) k e)), aaD h.od (fun k e => hk k (abz h.od h.obj (by decide) k e)), (hk gl h.p_gl).trans h.row, h.len, fun d hd => ?_, .inl h.fp, .inl h.fl, fun k e => .inr e, fun k e => .inl (h.fd k e), fun d v k hd h1 e => .inl (h.fi d v k hd h1 e), h.sl⟩
 · have := heap_setCell_same w p 1 _ _ V h.obj; rw [this]; rfl
 · obtain ⟨v, h1, h2⟩ := h.at_ d hd; exact ⟨v, h1, aaD h2 (fun k e => hk k (abz h2 h.obj (by decide) k e))⟩
theorem Hm.dset (h : Hm F w p H Vb Vd gl cs) (V : Value) (l : List Dt) (hown : w.ownsRow 0 36 1 V l.length (l.map Prod.fst)) (hsl : ∀ d ∈ l, ∃ A n c, d.1 = Value.slice A n c) :
 Hm (fun k => F k \/ V.ownBlock = some k) (w.setCell ⟨p, 2, none⟩ V) p { H with ds := l } Vb V gl cs := by
 have hk := amD w p 2 V; refine ⟨?_, aaD h.ob (fun k e => hk k (abz h.ob h.obj (by decide) k e)), aaD hown (fun k e => hk k (abz hown h.obj (by decide) k e)), (hk gl h.p_gl).trans h.row, h.len, fun d hd => ?_, .inl h.fp, .inl h.fl, fun k e => .inl (h.fb k e), fun k e => .inr e, fun d v k hd h1 e => .inl (h.fi d v k hd h1 e), hsl⟩
 · have := heap_setCell_same w p 2 _ _ V h.obj; rw [this]; rfl
 · obtain ⟨v, h1, h2⟩ := h.at_ d hd; exact ⟨v, h1, aaD h2 (fun k e => hk k (abz h2 h.obj (by decide) k e))⟩
theorem aav {n size : Nat} {t : TypeId} {V : Value} {xs : List Value} (h : w.ownsRow 0 t size V n xs) (hn : 0 < n) : ∃ b c, V = .slice (some ⟨b, 0, none⟩) n c /\ b < w.heap.size /\ n <= c /\ c <= maxLen := by
 rcases h.2 with ⟨_, h0⟩ | ⟨b, c, cur, rfl, _, hh, hnc, hm, _⟩
 · omega
 · exact ⟨b, c, rfl, aab hh, hnc, hm⟩
theorem acm (h : Hm F w p H Vb Vd gl cs) (i : Nat) (hi : i < H.blks.length) (hn : H.blks.length <= 100000) (hdl : H.ds.length = H.blks.length) :
 Calls Tryz.prog 69 #[.pointer (some ⟨p, 0, none⟩), .int .i64 (i : Int)] w fun e w' => e = .returned (.tuple #[]) /\ HT F w p (H.drop i) w' := by
 obtain ⟨b1, c1, rfl, hb1, hnc1, hm1⟩ := aav h.ob (by omega); obtain ⟨b2, c2, rfl, hb2, hnc2, hm2⟩ := aav h.od (by omega); have q1 := h.c1; have hplt := h.lt; obtain ⟨n, hN⟩ := nmE H.blks.length; have HO1 : Hid (w.ownsRow 0 81 3 (.slice (some ⟨b1, 0, none⟩) n c1) n (aaU H.blks)) := (show World.ownsRow _ _ _ _ _ _ _ by rw [<- hN]; exact h.ob); have HH := hE0 h; have HN := hE0 hN; rw [hN] at q1 hi hn hnc1 hdl; rw [hdl] at hnc2; obtain ⟨wd, hwd⟩ := nmE w.drew; have hbd := adE hwd; have hsz : w.heap.size = wd.heap.size := by rw [<- hwd]; rfl
 have HBD := hE0 hbd; have HSZ := hE0 hsz; have e1 := (World.cell?_of_block (w := w) (w' := wd) (a := ⟨p, 1, none⟩) (by rw [<- hwd]; rfl)).trans q1; have hpd : p < wd.heap.size := by omega
 have hbd1 : b1 < wd.heap.size := by omega
 have hpd1 : p < wd.heap.size := hpd; have EE1 := hE0 e1; have HDL2 : Hid (H.ds.length = n) := hdl; have HWD1 := hE0 hwd; have K1 := hE0 (aay HO1.out hbd); unfold maxLen at hm1 hm2; have hin : (i : Int) < (n : Int) := by omega
 clear h hN hdl q1 hwd hbd hsz; by_cases hc1 : c1 = i + 1
 · by_cases hc2 : c2 = i + 1
   · go_enter Tryz.func69, Tryz.ntmps69
     go_wp2_with fail
     refine aan wd.heap.size (.one [0, 2, 3, 4, 5, 6, 7, 9, 10, 11, 12, 13, 14, 15] 1 (.one [] 8 (.one [] 16 (.fin [17, 18])))) [19] (by kernel_rfl) (by kernel_rfl) (by kernel_rfl) (fun _ _ _ _ _ h => h) ?_; rw [HWD1.out]; have t1 : ∀ z : LaterB wd.heap.size wd, z.val.cell? ⟨p, 1, none⟩ = some (.slice (some ⟨b1, 0, none⟩) n (i + 1)) := fun z => (z.ext.cell (p := ⟨p, 1, none⟩) hpd1).trans (by have := EE1.out; rw [hc1] at this; exact this); refine aau (l := ?seg1aa) ?hseg1aa ?_
     case hseg1aa => simp only [pick, lE1, lE2, lE3]; rfl
     repeat (go_big_quiet_step (fail))
     refine wpQuiet_nil ?_; clear t1; obtain ⟨x1, hx1⟩ := nmE (wd.alloc (.cells #[] 81)); have bx1 := abE hx1; have ownx1 : x1.ownsRow wd.heap.size 81 3 (.slice (some ⟨wd.heap.size, 0, none⟩) 0 0) 0 [] := by rw [<- hx1]; exact World.ownsRow_lit wd _ 0 (Nat.le_refl _) (by unfold maxLen; omega) rfl
     refine aaA (some 5) (w1 := x1) (v := .slice (some ⟨wd.heap.size, 0, none⟩) 0 0) rfl rfl rfl (by rw [<- hx1]; exact aaw rfl rfl (acd wd)) bx1 ⟨wd.heap.size, Nat.le_refl _, ?_⟩; simp only [Act.put, lE4, lE5, lE6]; refine aau (l := []) rfl ?_; refine wpQuiet_nil ?_; have s11 := ((aaX K1.out 0 i (by omega) ⟨b1, 0, none⟩ (.inr (by rw [Nat.zero_mul]))).cap (c' := (i + 1))).below bx1 (fun a e => by cases e; exact hbd1); refine aaQ (some 12) (.tmp 5) (.tmp 11) 54 81 rfl rfl rfl rfl Tryz.underlying54 (.agg #[.int .i64 0, .int .i64 0, .bool false]) 3 24 adg rfl (by decide) wd.heap.size (.slice (some ⟨wd.heap.size, 0, none⟩) 0 0) 0 [] rfl ownx1 (Nat.le_refl _) bx1.size (some ⟨b1, 0, none⟩) i (i + 1) _ rfl ?l11aa s11 ?o11aa (by omega) (by omega) ?_
     case l11aa => have := K1.out.1; rw [List.length_take, List.length_drop]; omega
     case o11aa => exact fun u hu => (abG H.blks) u (List.mem_of_mem_drop (List.mem_of_mem_take hu))
     intro y1 z1 owny1 bz1 _; have bz21 := bx1.trans bz1; refine ⟨wd.heap.size, Nat.le_refl _, ?_⟩; simp only [Act.put, lE4, lE5, lE6]; refine aau (l := []) rfl ?_; refine wpQuiet_nil ?_; have s21 := ((aaX K1.out (i + 1) (n - (i + 1)) (by omega) ⟨b1, 0, none⟩ (.inl (by omega))).cap (c' := 0)).below bz21 (fun a e => by cases e; exact hbd1); refine aaQ (some 20) (.tmp 12) (.tmp 19) 54 81 rfl rfl rfl rfl Tryz.underlying54 (.agg #[.int .i64 0, .int .i64 0, .bool false]) 3 24 adg rfl (by decide) wd.heap.size y1 (0 + i) _ rfl owny1 (Nat.le_refl _) bz21.size (some ⟨b1, 0, none⟩) (n - (i + 1)) (0) _ rfl ?l21aa s21 ?o21aa (by omega) (by omega) ?_
     case l21aa => have := K1.out.1; rw [List.length_take, List.length_drop]; omega
     case o21aa => exact fun u hu => (abG H.blks) u (List.mem_of_mem_drop (List.mem_of_mem_take hu))
     intro u1 v1 ownu1 bv1 _; have bv21 := bz21.trans bv1; rw [Nat.zero_add] at ownu1; refine ⟨wd.heap.size, Nat.le_refl _, ?_⟩; simp only [Act.put, lE4, lE5, lE6]; obtain ⟨uA1, uc1, rfl⟩ := aa0 ownu1; have e1u : i + (n - (i + 1)) = (H.blks.take i ++ H.blks.drop (i + 1)).length := by have := HN.out; rw [List.length_append, List.length_take, List.length_drop]; omega
     have hrow1 : v1.ownsRow wd.heap.size 81 3 (.slice uA1 (i + (n - (i + 1))) uc1) (H.blks.take i ++ H.blks.drop (i + 1)).length (aaU (H.blks.take i ++ H.blks.drop (i + 1))) := by
      rw [<- e1u, abN, acf, acg]; have e := ownu1; rw [Nat.zero_mul, List.drop_zero, List.nil_append, List.take_of_length_le (i := (n - (i + 1)) * 3) (by have := K1.out.1; rw [List.length_drop]; omega)] at e; exact e
     have HM1 := hE0 (HH.out.below (HBD.out.trans (by rw [HSZ.out]; exact bv21))); have hm2' := HM1.out.bset _ _ (aaI hrow1 (Nat.zero_le _)); have HB1 := hE0 bv21; have HL1 := hE0 hrow1.lt; clear e1u s11 s21 owny1 ownx1 ownu1 bx1 bz1 bv1 hx1 hrow1 bz21 bv21; have q1 := HM1.out.c1; have f1 := HM1.out.thaw 1; have hp1 := HM1.out.lt; refine aaO (l := ?la1aa) (t := ?tl1aa) ?hla1aa ?htl1aa ?_
     case hla1aa => simp only [pick, lE1, lE2, lE3]; rfl
     case htl1aa => simp only [pick, lE1, lE2, lE3]; rfl
     repeat (go_big_quiet_step (fail))
     refine wpQuiet_nil ?_; go_wp2_with fail
     clear q1 f1 hp1; obtain ⟨v2, hv2⟩ := nmE (v1.setCell ⟨p, 1, none⟩ (.slice uA1 (i + (n - (i + 1))) uc1)); rw [hv2] at hm2'; obtain ⟨we, hwe⟩ := nmE v2.drew; have hbe := adE hwe; have HME := hE0 (hm2'.below hbe); have htc : Tch F w we := ((Tch.of_below (S := F) (HBD.out.trans (by rw [HSZ.out]; exact HB1.out))).trans (by rw [<- hv2]; exact Tch.set v1 ⟨p, 1, none⟩ _ HH.out.fp) (fun _ _ h => h)).trans (Tch.of_below (S := F) hbe) (fun _ _ h => h); have HTC := hE0 htc; have HWD2 : Hid ((v1.setCell ⟨p, 1, none⟩ (.slice uA1 (i + (n - (i + 1))) uc1)).drew = we) := (show _ = _ by rw [hv2]; exact hwe); have hod : we.ownsRow 0 36 1 (.slice (some ⟨b2, 0, none⟩) n c2) n (H.ds.map Prod.fst) := by have e := HME.out.od; rw [<- HDL2.out]; exact e
     have K2 := hE0 hod; have EE2 : Hid (we.cell? ⟨p, 2, none⟩ = some (.slice (some ⟨b2, 0, none⟩) n c2)) := (show _ = _ by have e := HME.out.c2; rw [<- HDL2.out]; exact e); have hpd2 := HME.out.lt; have hbd2 : b2 < we.heap.size := own_lt hod rfl; clear hm2' hv2 hwe hbe htc hod; refine aan we.heap.size (.one [0, 2, 3, 4, 5, 6, 7, 9, 10, 11, 12, 13, 14, 15] 1 (.one [] 8 (.one [] 16 (.fin [17, 18])))) [19] (by kernel_rfl) (by kernel_rfl) (by kernel_rfl) (fun _ _ _ _ _ h => h) ?_; rw [HWD2.out]; have t1 : ∀ z : LaterB we.heap.size we, z.val.cell? ⟨p, 2, none⟩ = some (.slice (some ⟨b2, 0, none⟩) n (i + 1)) := fun z => (z.ext.cell (p := ⟨p, 2, none⟩) hpd2).trans (by have := EE2.out; rw [hc2] at this; exact this); refine aau (l := ?seg2aa) ?hseg2aa ?_
     case hseg2aa => simp only [pick, lE1, lE2, lE3]; rfl
     repeat (go_big_quiet_step (fail))
     refine wpQuiet_nil ?_; clear t1; obtain ⟨x2, hx2⟩ := nmE (we.alloc (.cells #[] 36)); have bx2 := abE hx2; have ownx2 : x2.ownsRow we.heap.size 36 1 (.slice (some ⟨we.heap.size, 0, none⟩) 0 0) 0 [] := by rw [<- hx2]; exact World.ownsRow_lit we _ 0 (Nat.le_refl _) (by unfold maxLen; omega) rfl
     refine aaA (some 24) (w1 := x2) (v := .slice (some ⟨we.heap.size, 0, none⟩) 0 0) rfl rfl rfl (by rw [<- hx2]; exact aaw rfl rfl (ace we)) bx2 ⟨we.heap.size, Nat.le_refl _, ?_⟩; simp only [Act.put, lE4, lE5, lE6]; refine aau (l := []) rfl ?_; refine wpQuiet_nil ?_; have s12 := ((aaX K2.out 0 i (by omega) ⟨b2, 0, none⟩ (.inr (by rw [Nat.zero_mul]))).cap (c' := (i + 1))).below bx2 (fun a e => by cases e; exact hbd2); refine aaQ (some 31) (.tmp 24) (.tmp 30) 55 36 rfl rfl rfl rfl Tryz.underlying55 (.slice none 0 0) 1 24 acG rfl (by decide) we.heap.size (.slice (some ⟨we.heap.size, 0, none⟩) 0 0) 0 [] rfl ownx2 (Nat.le_refl _) bx2.size (some ⟨b2, 0, none⟩) i (i + 1) _ rfl ?l12aa s12 ?o12aa (by omega) (by omega) ?_
     case l12aa => have := K2.out.1; rw [List.length_take, List.length_drop]; omega
     case o12aa => exact fun u hu => (adh HH.out.sl) u (List.mem_of_mem_drop (List.mem_of_mem_take hu))
     intro y2 z2 owny2 bz2 _; have bz22 := bx2.trans bz2; refine ⟨we.heap.size, Nat.le_refl _, ?_⟩; simp only [Act.put, lE4, lE5, lE6]; refine aau (l := []) rfl ?_; refine wpQuiet_nil ?_; have s22 := ((aaX K2.out (i + 1) (n - (i + 1)) (by omega) ⟨b2, 0, none⟩ (.inl (by omega))).cap (c' := 0)).below bz22 (fun a e => by cases e; exact hbd2); refine aaQ (some 39) (.tmp 31) (.tmp 38) 55 36 rfl rfl rfl rfl Tryz.underlying55 (.slice none 0 0) 1 24 acG rfl (by decide) we.heap.size y2 (0 + i) _ rfl owny2 (Nat.le_refl _) bz22.size (some ⟨b2, 0, none⟩) (n - (i + 1)) (0) _ rfl ?l22aa s22 ?o22aa (by omega) (by omega) ?_
     case l22aa => have := K2.out.1; rw [List.length_take, List.length_drop]; omega
     case o22aa => exact fun u hu => (adh HH.out.sl) u (List.mem_of_mem_drop (List.mem_of_mem_take hu))
     intro u2 v2 ownu2 bv2 _; have bv22 := bz22.trans bv2; rw [Nat.zero_add] at ownu2; refine ⟨we.heap.size, Nat.le_refl _, ?_⟩; simp only [Act.put, lE4, lE5, lE6]; obtain ⟨uA2, uc2, rfl⟩ := aa0 ownu2; have e2u : i + (n - (i + 1)) = (H.ds.take i ++ H.ds.drop (i + 1)).length := by have := HDL2.out; rw [List.length_append, List.length_take, List.length_drop]; omega
     have hrow2 : v2.ownsRow we.heap.size 36 1 (.slice uA2 (i + (n - (i + 1))) uc2) (H.ds.take i ++ H.ds.drop (i + 1)).length ((H.ds.take i ++ H.ds.drop (i + 1)).map Prod.fst) := by
      rw [<- e2u, List.map_append, List.map_take, List.map_drop]; have e := ownu2; rw [Nat.zero_mul, List.drop_zero, List.nil_append, Nat.mul_one, Nat.mul_one, Nat.mul_one, List.take_of_length_le (i := n - (i + 1)) (by have := K2.out.1; rw [List.length_drop]; omega)] at e; exact e
     have HM2 := hE0 (HME.out.below bv22); have hm3 := HM2.out.dset _ _ (aaI hrow2 (Nat.zero_le _)) (fun d hd => HH.out.sl d (by rcases List.mem_append.1 hd with h | h; exact List.mem_of_mem_take h; exact List.mem_of_mem_drop h)); have hto : HT F w p (H.drop i) (v2.setCell ⟨p, 2, none⟩ (.slice uA2 (i + (n - (i + 1))) uc2)) := by
      refine ⟨_, ⟨_, _, _, _, hm3⟩, ?_, fun k hk => ?_⟩
      · exact (HTC.out.trans (Tch.of_below (S := F) bv22) (fun _ _ h => h)).trans (Tch.set v2 ⟨p, 2, none⟩ _ HH.out.fp) (fun _ _ h => h)
      · have hs1 := HSZ.out; rcases hk with (hk | hk) | hk
        · exact .inl hk
        · exact .inr (by have := (HL1.out k hk).1; omega)
        · exact .inr (by have := (hrow2.lt k hk).1; have := HTC.out.size; omega)
     have HTO := hE0 hto; clear e2u s12 s22 owny2 ownx2 ownu2 bx2 bz2 bv2 hx2 hrow2 hm3 hto bz22 bv22; have q2 := HM2.out.c2; have f2 := HM2.out.thaw 2; have hp2 := HM2.out.lt; refine aaO (l := ?la2aa) (t := ?tl2aa) ?hla2aa ?htl2aa ?_
     case hla2aa => simp only [pick, lE1, lE2, lE3]; rfl
     case htl2aa => simp only [pick, lE1, lE2, lE3]; rfl
     repeat (go_big_quiet_step (fail))
     refine wpQuiet_nil ?_; go_wp2
     go_end0
     exact ⟨rfl, HTO.out⟩
   · go_enter Tryz.func69, Tryz.ntmps69
     go_wp2_with fail
     refine aan wd.heap.size (.one [0, 2, 3, 4, 5, 6, 7, 9, 10, 11, 12, 13, 14, 15] 1 (.one [] 8 (.one [] 16 (.fin [17, 18])))) [19] (by kernel_rfl) (by kernel_rfl) (by kernel_rfl) (fun _ _ _ _ _ h => h) ?_; rw [HWD1.out]; have t1 : ∀ z : LaterB wd.heap.size wd, z.val.cell? ⟨p, 1, none⟩ = some (.slice (some ⟨b1, 0, none⟩) n (i + 1)) := fun z => (z.ext.cell (p := ⟨p, 1, none⟩) hpd1).trans (by have := EE1.out; rw [hc1] at this; exact this); refine aau (l := ?seg1ab) ?hseg1ab ?_
     case hseg1ab => simp only [pick, lE1, lE2, lE3]; rfl
     repeat (go_big_quiet_step (fail))
     refine wpQuiet_nil ?_; clear t1; obtain ⟨x1, hx1⟩ := nmE (wd.alloc (.cells #[] 81)); have bx1 := abE hx1; have ownx1 : x1.ownsRow wd.heap.size 81 3 (.slice (some ⟨wd.heap.size, 0, none⟩) 0 0) 0 [] := by rw [<- hx1]; exact World.ownsRow_lit wd _ 0 (Nat.le_refl _) (by unfold maxLen; omega) rfl
     refine aaA (some 5) (w1 := x1) (v := .slice (some ⟨wd.heap.size, 0, none⟩) 0 0) rfl rfl rfl (by rw [<- hx1]; exact aaw rfl rfl (acd wd)) bx1 ⟨wd.heap.size, Nat.le_refl _, ?_⟩; simp only [Act.put, lE4, lE5, lE6]; refine aau (l := []) rfl ?_; refine wpQuiet_nil ?_; have s11 := ((aaX K1.out 0 i (by omega) ⟨b1, 0, none⟩ (.inr (by rw [Nat.zero_mul]))).cap (c' := (i + 1))).below bx1 (fun a e => by cases e; exact hbd1); refine aaQ (some 12) (.tmp 5) (.tmp 11) 54 81 rfl rfl rfl rfl Tryz.underlying54 (.agg #[.int .i64 0, .int .i64 0, .bool false]) 3 24 adg rfl (by decide) wd.heap.size (.slice (some ⟨wd.heap.size, 0, none⟩) 0 0) 0 [] rfl ownx1 (Nat.le_refl _) bx1.size (some ⟨b1, 0, none⟩) i (i + 1) _ rfl ?l11ab s11 ?o11ab (by omega) (by omega) ?_
     case l11ab => have := K1.out.1; rw [List.length_take, List.length_drop]; omega
     case o11ab => exact fun u hu => (abG H.blks) u (List.mem_of_mem_drop (List.mem_of_mem_take hu))
     intro y1 z1 owny1 bz1 _; have bz21 := bx1.trans bz1; refine ⟨wd.heap.size, Nat.le_refl _, ?_⟩; simp only [Act.put, lE4, lE5, lE6]; refine aau (l := []) rfl ?_; refine wpQuiet_nil ?_; have s21 := ((aaX K1.out (i + 1) (n - (i + 1)) (by omega) ⟨b1, 0, none⟩ (.inl (by omega))).cap (c' := 0)).below bz21 (fun a e => by cases e; exact hbd1); refine aaQ (some 20) (.tmp 12) (.tmp 19) 54 81 rfl rfl rfl rfl Tryz.underlying54 (.agg #[.int .i64 0, .int .i64 0, .bool false]) 3 24 adg rfl (by decide) wd.heap.size y1 (0 + i) _ rfl owny1 (Nat.le_refl _) bz21.size (some ⟨b1, 0, none⟩) (n - (i + 1)) (0) _ rfl ?l21ab s21 ?o21ab (by omega) (by omega) ?_
     case l21ab => have := K1.out.1; rw [List.length_take, List.length_drop]; omega
     case o21ab => exact fun u hu => (abG H.blks) u (List.mem_of_mem_drop (List.mem_of_mem_take hu))
     intro u1 v1 ownu1 bv1 _; have bv21 := bz21.trans bv1; rw [Nat.zero_add] at ownu1; refine ⟨wd.heap.size, Nat.le_refl _, ?_⟩; simp only [Act.put, lE4, lE5, lE6]; obtain ⟨uA1, uc1, rfl⟩ := aa0 ownu1; have e1u : i + (n - (i + 1)) = (H.blks.take i ++ H.blks.drop (i + 1)).length := by have := HN.out; rw [List.length_append, List.length_take, List.length_drop]; omega
     have hrow1 : v1.ownsRow wd.heap.size 81 3 (.slice uA1 (i + (n - (i + 1))) uc1) (H.blks.take i ++ H.blks.drop (i + 1)).length (aaU (H.blks.take i ++ H.blks.drop (i + 1))) := by
      rw [<- e1u, abN, acf, acg]; have e := ownu1; rw [Nat.zero_mul, List.drop_zero, List.nil_append, List.take_of_length_le (i := (n - (i + 1)) * 3) (by have := K1.out.1; rw [List.length_drop]; omega)] at e; exact e
     have HM1 := hE0 (HH.out.below (HBD.out.trans (by rw [HSZ.out]; exact bv21))); have hm2' := HM1.out.bset _ _ (aaI hrow1 (Nat.zero_le _)); have HB1 := hE0 bv21; have HL1 := hE0 hrow1.lt; clear e1u s11 s21 owny1 ownx1 ownu1 bx1 bz1 bv1 hx1 hrow1 bz21 bv21; have q1 := HM1.out.c1; have f1 := HM1.out.thaw 1; have hp1 := HM1.out.lt; refine aaO (l := ?la1ab) (t := ?tl1ab) ?hla1ab ?htl1ab ?_
     case hla1ab => simp only [pick, lE1, lE2, lE3]; rfl
     case htl1ab => simp only [pick, lE1, lE2, lE3]; rfl
     repeat (go_big_quiet_step (fail))
     refine wpQuiet_nil ?_; go_wp2_with fail
     clear q1 f1 hp1; obtain ⟨v2, hv2⟩ := nmE (v1.setCell ⟨p, 1, none⟩ (.slice uA1 (i + (n - (i + 1))) uc1)); rw [hv2] at hm2'; obtain ⟨we, hwe⟩ := nmE v2.drew; have hbe := adE hwe; have HME := hE0 (hm2'.below hbe); have htc : Tch F w we := ((Tch.of_below (S := F) (HBD.out.trans (by rw [HSZ.out]; exact HB1.out))).trans (by rw [<- hv2]; exact Tch.set v1 ⟨p, 1, none⟩ _ HH.out.fp) (fun _ _ h => h)).trans (Tch.of_below (S := F) hbe) (fun _ _ h => h); have HTC := hE0 htc; have HWD2 : Hid ((v1.setCell ⟨p, 1, none⟩ (.slice uA1 (i + (n - (i + 1))) uc1)).drew = we) := (show _ = _ by rw [hv2]; exact hwe); have hod : we.ownsRow 0 36 1 (.slice (some ⟨b2, 0, none⟩) n c2) n (H.ds.map Prod.fst) := by have e := HME.out.od; rw [<- HDL2.out]; exact e
     have K2 := hE0 hod; have EE2 : Hid (we.cell? ⟨p, 2, none⟩ = some (.slice (some ⟨b2, 0, none⟩) n c2)) := (show _ = _ by have e := HME.out.c2; rw [<- HDL2.out]; exact e); have hpd2 := HME.out.lt; have hbd2 : b2 < we.heap.size := own_lt hod rfl; clear hm2' hv2 hwe hbe htc hod; refine aan we.heap.size (.one [0, 2, 3, 4, 5, 6, 7, 9, 10, 11, 12, 13, 14, 15] 1 (.one [] 8 (.one [] 16 (.fin [17, 18])))) [19] (by kernel_rfl) (by kernel_rfl) (by kernel_rfl) (fun _ _ _ _ _ h => h) ?_; rw [HWD2.out]; have t1 : ∀ z : LaterB we.heap.size we, z.val.cell? ⟨p, 2, none⟩ = some (.slice (some ⟨b2, 0, none⟩) n c2) := fun z => (z.ext.cell (p := ⟨p, 2, none⟩) hpd2).trans (by have := EE2.out; exact this); refine aau (l := ?seg2ab) ?hseg2ab ?_
     case hseg2ab => simp only [pick, lE1, lE2, lE3]; rfl
     repeat (go_big_quiet_step (fail))
     refine wpQuiet_nil ?_; clear t1; obtain ⟨x2, hx2⟩ := nmE (we.alloc (.cells #[] 36)); have bx2 := abE hx2; have ownx2 : x2.ownsRow we.heap.size 36 1 (.slice (some ⟨we.heap.size, 0, none⟩) 0 0) 0 [] := by rw [<- hx2]; exact World.ownsRow_lit we _ 0 (Nat.le_refl _) (by unfold maxLen; omega) rfl
     refine aaA (some 24) (w1 := x2) (v := .slice (some ⟨we.heap.size, 0, none⟩) 0 0) rfl rfl rfl (by rw [<- hx2]; exact aaw rfl rfl (ace we)) bx2 ⟨we.heap.size, Nat.le_refl _, ?_⟩; simp only [Act.put, lE4, lE5, lE6]; refine aau (l := []) rfl ?_; refine wpQuiet_nil ?_; have s12 := ((aaX K2.out 0 i (by omega) ⟨b2, 0, none⟩ (.inr (by rw [Nat.zero_mul]))).cap (c' := c2)).below bx2 (fun a e => by cases e; exact hbd2); refine aaQ (some 31) (.tmp 24) (.tmp 30) 55 36 rfl rfl rfl rfl Tryz.underlying55 (.slice none 0 0) 1 24 acG rfl (by decide) we.heap.size (.slice (some ⟨we.heap.size, 0, none⟩) 0 0) 0 [] rfl ownx2 (Nat.le_refl _) bx2.size (some ⟨b2, 0, none⟩) i c2 _ rfl ?l12ab s12 ?o12ab (by omega) (by omega) ?_
     case l12ab => have := K2.out.1; rw [List.length_take, List.length_drop]; omega
     case o12ab => exact fun u hu => (adh HH.out.sl) u (List.mem_of_mem_drop (List.mem_of_mem_take hu))
     intro y2 z2 owny2 bz2 _; have bz22 := bx2.trans bz2; refine ⟨we.heap.size, Nat.le_refl _, ?_⟩; simp only [Act.put, lE4, lE5, lE6]; refine aau (l := []) rfl ?_; refine wpQuiet_nil ?_; have s22 := ((aaX K2.out (i + 1) (n - (i + 1)) (by omega) ⟨b2, i + 1, none⟩ (.inr (by rw [Nat.mul_one]))).cap (c' := c2 - (i + 1))).below bz22 (fun a e => by cases e; exact hbd2); refine aaQ (some 39) (.tmp 31) (.tmp 38) 55 36 rfl rfl rfl rfl Tryz.underlying55 (.slice none 0 0) 1 24 acG rfl (by decide) we.heap.size y2 (0 + i) _ rfl owny2 (Nat.le_refl _) bz22.size (some ⟨b2, i + 1, none⟩) (n - (i + 1)) (c2 - (i + 1)) _ rfl ?l22ab s22 ?o22ab (by omega) (by omega) ?_
     case l22ab => have := K2.out.1; rw [List.length_take, List.length_drop]; omega
     case o22ab => exact fun u hu => (adh HH.out.sl) u (List.mem_of_mem_drop (List.mem_of_mem_take hu))
     intro u2 v2 ownu2 bv2 _; have bv22 := bz22.trans bv2; rw [Nat.zero_add] at ownu2; refine ⟨we.heap.size, Nat.le_refl _, ?_⟩; simp only [Act.put, lE4, lE5, lE6]; obtain ⟨uA2, uc2, rfl⟩ := aa0 ownu2; have e2u : i + (n - (i + 1)) = (H.ds.take i ++ H.ds.drop (i + 1)).length := by have := HDL2.out; rw [List.length_append, List.length_take, List.length_drop]; omega
     have hrow2 : v2.ownsRow we.heap.size 36 1 (.slice uA2 (i + (n - (i + 1))) uc2) (H.ds.take i ++ H.ds.drop (i + 1)).length ((H.ds.take i ++ H.ds.drop (i + 1)).map Prod.fst) := by
      rw [<- e2u, List.map_append, List.map_take, List.map_drop]; have e := ownu2; rw [Nat.zero_mul, List.drop_zero, List.nil_append, Nat.mul_one, Nat.mul_one, Nat.mul_one, List.take_of_length_le (i := n - (i + 1)) (by have := K2.out.1; rw [List.length_drop]; omega)] at e; exact e
     have HM2 := hE0 (HME.out.below bv22); have hm3 := HM2.out.dset _ _ (aaI hrow2 (Nat.zero_le _)) (fun d hd => HH.out.sl d (by rcases List.mem_append.1 hd with h | h; exact List.mem_of_mem_take h; exact List.mem_of_mem_drop h)); have hto : HT F w p (H.drop i) (v2.setCell ⟨p, 2, none⟩ (.slice uA2 (i + (n - (i + 1))) uc2)) := by
      refine ⟨_, ⟨_, _, _, _, hm3⟩, ?_, fun k hk => ?_⟩
      · exact (HTC.out.trans (Tch.of_below (S := F) bv22) (fun _ _ h => h)).trans (Tch.set v2 ⟨p, 2, none⟩ _ HH.out.fp) (fun _ _ h => h)
      · have hs1 := HSZ.out; rcases hk with (hk | hk) | hk
        · exact .inl hk
        · exact .inr (by have := (HL1.out k hk).1; omega)
        · exact .inr (by have := (hrow2.lt k hk).1; have := HTC.out.size; omega)
     have HTO := hE0 hto; clear e2u s12 s22 owny2 ownx2 ownu2 bx2 bz2 bv2 hx2 hrow2 hm3 hto bz22 bv22; have q2 := HM2.out.c2; have f2 := HM2.out.thaw 2; have hp2 := HM2.out.lt; refine aaO (l := ?la2ab) (t := ?tl2ab) ?hla2ab ?htl2ab ?_
     case hla2ab => simp only [pick, lE1, lE2, lE3]; rfl
     case htl2ab => simp only [pick, lE1, lE2, lE3]; rfl
     repeat (go_big_quiet_step (fail))
     refine wpQuiet_nil ?_; go_wp2
     go_end0
     exact ⟨rfl, HTO.out⟩
 · by_cases hc2 : c2 = i + 1
   · go_enter Tryz.func69, Tryz.ntmps69
     go_wp2_with fail
     refine aan wd.heap.size (.one [0, 2, 3, 4, 5, 6, 7, 9, 10, 11, 12, 13, 14, 15] 1 (.one [] 8 (.one [] 16 (.fin [17, 18])))) [19] (by kernel_rfl) (by kernel_rfl) (by kernel_rfl) (fun _ _ _ _ _ h => h) ?_; rw [HWD1.out]; have t1 : ∀ z : LaterB wd.heap.size wd, z.val.cell? ⟨p, 1, none⟩ = some (.slice (some ⟨b1, 0, none⟩) n c1) := fun z => (z.ext.cell (p := ⟨p, 1, none⟩) hpd1).trans (by have := EE1.out; exact this); refine aau (l := ?seg1ba) ?hseg1ba ?_
     case hseg1ba => simp only [pick, lE1, lE2, lE3]; rfl
     repeat (go_big_quiet_step (fail))
     refine wpQuiet_nil ?_; clear t1; obtain ⟨x1, hx1⟩ := nmE (wd.alloc (.cells #[] 81)); have bx1 := abE hx1; have ownx1 : x1.ownsRow wd.heap.size 81 3 (.slice (some ⟨wd.heap.size, 0, none⟩) 0 0) 0 [] := by rw [<- hx1]; exact World.ownsRow_lit wd _ 0 (Nat.le_refl _) (by unfold maxLen; omega) rfl
     refine aaA (some 5) (w1 := x1) (v := .slice (some ⟨wd.heap.size, 0, none⟩) 0 0) rfl rfl rfl (by rw [<- hx1]; exact aaw rfl rfl (acd wd)) bx1 ⟨wd.heap.size, Nat.le_refl _, ?_⟩; simp only [Act.put, lE4, lE5, lE6]; refine aau (l := []) rfl ?_; refine wpQuiet_nil ?_; have s11 := ((aaX K1.out 0 i (by omega) ⟨b1, 0, none⟩ (.inr (by rw [Nat.zero_mul]))).cap (c' := c1)).below bx1 (fun a e => by cases e; exact hbd1); refine aaQ (some 12) (.tmp 5) (.tmp 11) 54 81 rfl rfl rfl rfl Tryz.underlying54 (.agg #[.int .i64 0, .int .i64 0, .bool false]) 3 24 adg rfl (by decide) wd.heap.size (.slice (some ⟨wd.heap.size, 0, none⟩) 0 0) 0 [] rfl ownx1 (Nat.le_refl _) bx1.size (some ⟨b1, 0, none⟩) i c1 _ rfl ?l11ba s11 ?o11ba (by omega) (by omega) ?_
     case l11ba => have := K1.out.1; rw [List.length_take, List.length_drop]; omega
     case o11ba => exact fun u hu => (abG H.blks) u (List.mem_of_mem_drop (List.mem_of_mem_take hu))
     intro y1 z1 owny1 bz1 _; have bz21 := bx1.trans bz1; refine ⟨wd.heap.size, Nat.le_refl _, ?_⟩; simp only [Act.put, lE4, lE5, lE6]; refine aau (l := []) rfl ?_; refine wpQuiet_nil ?_; have s21 := ((aaX K1.out (i + 1) (n - (i + 1)) (by omega) ⟨b1, (i + 1) * 3, none⟩ (.inr rfl)).cap (c' := c1 - (i + 1))).below bz21 (fun a e => by cases e; exact hbd1); refine aaQ (some 20) (.tmp 12) (.tmp 19) 54 81 rfl rfl rfl rfl Tryz.underlying54 (.agg #[.int .i64 0, .int .i64 0, .bool false]) 3 24 adg rfl (by decide) wd.heap.size y1 (0 + i) _ rfl owny1 (Nat.le_refl _) bz21.size (some ⟨b1, (i + 1) * 3, none⟩) (n - (i + 1)) (c1 - (i + 1)) _ rfl ?l21ba s21 ?o21ba (by omega) (by omega) ?_
     case l21ba => have := K1.out.1; rw [List.length_take, List.length_drop]; omega
     case o21ba => exact fun u hu => (abG H.blks) u (List.mem_of_mem_drop (List.mem_of_mem_take hu))
     intro u1 v1 ownu1 bv1 _; have bv21 := bz21.trans bv1; rw [Nat.zero_add] at ownu1; refine ⟨wd.heap.size, Nat.le_refl _, ?_⟩; simp only [Act.put, lE4, lE5, lE6]; obtain ⟨uA1, uc1, rfl⟩ := aa0 ownu1; have e1u : i + (n - (i + 1)) = (H.blks.take i ++ H.blks.drop (i + 1)).length := by have := HN.out; rw [List.length_append, List.length_take, List.length_drop]; omega
     have hrow1 : v1.ownsRow wd.heap.size 81 3 (.slice uA1 (i + (n - (i + 1))) uc1) (H.blks.take i ++ H.blks.drop (i + 1)).length (aaU (H.blks.take i ++ H.blks.drop (i + 1))) := by
      rw [<- e1u, abN, acf, acg]; have e := ownu1; rw [Nat.zero_mul, List.drop_zero, List.nil_append, List.take_of_length_le (i := (n - (i + 1)) * 3) (by have := K1.out.1; rw [List.length_drop]; omega)] at e; exact e
     have HM1 := hE0 (HH.out.below (HBD.out.trans (by rw [HSZ.out]; exact bv21))); have hm2' := HM1.out.bset _ _ (aaI hrow1 (Nat.zero_le _)); have HB1 := hE0 bv21; have HL1 := hE0 hrow1.lt; clear e1u s11 s21 owny1 ownx1 ownu1 bx1 bz1 bv1 hx1 hrow1 bz21 bv21; have q1 := HM1.out.c1; have f1 := HM1.out.thaw 1; have hp1 := HM1.out.lt; refine aaO (l := ?la1ba) (t := ?tl1ba) ?hla1ba ?htl1ba ?_
     case hla1ba => simp only [pick, lE1, lE2, lE3]; rfl
     case htl1ba => simp only [pick, lE1, lE2, lE3]; rfl
     repeat (go_big_quiet_step (fail))
     refine wpQuiet_nil ?_; go_wp2_with fail
     clear q1 f1 hp1; obtain ⟨v2, hv2⟩ := nmE (v1.setCell ⟨p, 1, none⟩ (.slice uA1 (i + (n - (i + 1))) uc1)); rw [hv2] at hm2'; obtain ⟨we, hwe⟩ := nmE v2.drew; have hbe := adE hwe; have HME := hE0 (hm2'.below hbe); have htc : Tch F w we := ((Tch.of_below (S := F) (HBD.out.trans (by rw [HSZ.out]; exact HB1.out))).trans (by rw [<- hv2]; exact Tch.set v1 ⟨p, 1, none⟩ _ HH.out.fp) (fun _ _ h => h)).trans (Tch.of_below (S := F) hbe) (fun _ _ h => h); have HTC := hE0 htc; have HWD2 : Hid ((v1.setCell ⟨p, 1, none⟩ (.slice uA1 (i + (n - (i + 1))) uc1)).drew = we) := (show _ = _ by rw [hv2]; exact hwe); have hod : we.ownsRow 0 36 1 (.slice (some ⟨b2, 0, none⟩) n c2) n (H.ds.map Prod.fst) := by have e := HME.out.od; rw [<- HDL2.out]; exact e
     have K2 := hE0 hod; have EE2 : Hid (we.cell? ⟨p, 2, none⟩ = some (.slice (some ⟨b2, 0, none⟩) n c2)) := (show _ = _ by have e := HME.out.c2; rw [<- HDL2.out]; exact e); have hpd2 := HME.out.lt; have hbd2 : b2 < we.heap.size := own_lt hod rfl; clear hm2' hv2 hwe hbe htc hod; refine aan we.heap.size (.one [0, 2, 3, 4, 5, 6, 7, 9, 10, 11, 12, 13, 14, 15] 1 (.one [] 8 (.one [] 16 (.fin [17, 18])))) [19] (by kernel_rfl) (by kernel_rfl) (by kernel_rfl) (fun _ _ _ _ _ h => h) ?_; rw [HWD2.out]; have t1 : ∀ z : LaterB we.heap.size we, z.val.cell? ⟨p, 2, none⟩ = some (.slice (some ⟨b2, 0, none⟩) n (i + 1)) := fun z => (z.ext.cell (p := ⟨p, 2, none⟩) hpd2).trans (by have := EE2.out; rw [hc2] at this; exact this); refine aau (l := ?seg2ba) ?hseg2ba ?_
     case hseg2ba => simp only [pick, lE1, lE2, lE3]; rfl
     repeat (go_big_quiet_step (fail))
     refine wpQuiet_nil ?_; clear t1; obtain ⟨x2, hx2⟩ := nmE (we.alloc (.cells #[] 36)); have bx2 := abE hx2; have ownx2 : x2.ownsRow we.heap.size 36 1 (.slice (some ⟨we.heap.size, 0, none⟩) 0 0) 0 [] := by rw [<- hx2]; exact World.ownsRow_lit we _ 0 (Nat.le_refl _) (by unfold maxLen; omega) rfl
     refine aaA (some 24) (w1 := x2) (v := .slice (some ⟨we.heap.size, 0, none⟩) 0 0) rfl rfl rfl (by rw [<- hx2]; exact aaw rfl rfl (ace we)) bx2 ⟨we.heap.size, Nat.le_refl _, ?_⟩; simp only [Act.put, lE4, lE5, lE6]; refine aau (l := []) rfl ?_; refine wpQuiet_nil ?_; have s12 := ((aaX K2.out 0 i (by omega) ⟨b2, 0, none⟩ (.inr (by rw [Nat.zero_mul]))).cap (c' := (i + 1))).below bx2 (fun a e => by cases e; exact hbd2); refine aaQ (some 31) (.tmp 24) (.tmp 30) 55 36 rfl rfl rfl rfl Tryz.underlying55 (.slice none 0 0) 1 24 acG rfl (by decide) we.heap.size (.slice (some ⟨we.heap.size, 0, none⟩) 0 0) 0 [] rfl ownx2 (Nat.le_refl _) bx2.size (some ⟨b2, 0, none⟩) i (i + 1) _ rfl ?l12ba s12 ?o12ba (by omega) (by omega) ?_
     case l12ba => have := K2.out.1; rw [List.length_take, List.length_drop]; omega
     case o12ba => exact fun u hu => (adh HH.out.sl) u (List.mem_of_mem_drop (List.mem_of_mem_take hu))
     intro y2 z2 owny2 bz2 _; have bz22 := bx2.trans bz2; refine ⟨we.heap.size, Nat.le_refl _, ?_⟩; simp only [Act.put, lE4, lE5, lE6]; refine aau (l := []) rfl ?_; refine wpQuiet_nil ?_; have s22 := ((aaX K2.out (i + 1) (n - (i + 1)) (by omega) ⟨b2, 0, none⟩ (.inl (by omega))).cap (c' := 0)).below bz22 (fun a e => by cases e; exact hbd2); refine aaQ (some 39) (.tmp 31) (.tmp 38) 55 36 rfl rfl rfl rfl Tryz.underlying55 (.slice none 0 0) 1 24 acG rfl (by decide) we.heap.size y2 (0 + i) _ rfl owny2 (Nat.le_refl _) bz22.size (some ⟨b2, 0, none⟩) (n - (i + 1)) (0) _ rfl ?l22ba s22 ?o22ba (by omega) (by omega) ?_
     case l22ba => have := K2.out.1; rw [List.length_take, List.length_drop]; omega
     case o22ba => exact fun u hu => (adh HH.out.sl) u (List.mem_of_mem_drop (List.mem_of_mem_take hu))
     intro u2 v2 ownu2 bv2 _; have bv22 := bz22.trans bv2; rw [Nat.zero_add] at ownu2; refine ⟨we.heap.size, Nat.le_refl _, ?_⟩; simp only [Act.put, lE4, lE5, lE6]; obtain ⟨uA2, uc2, rfl⟩ := aa0 ownu2; have e2u : i + (n - (i + 1)) = (H.ds.take i ++ H.ds.drop (i + 1)).length := by have := HDL2.out; rw [List.length_append, List.length_take, List.length_drop]; omega
     have hrow2 : v2.ownsRow we.heap.size 36 1 (.slice uA2 (i + (n - (i + 1))) uc2) (H.ds.take i ++ H.ds.drop (i + 1)).length ((H.ds.take i ++ H.ds.drop (i + 1)).map Prod.fst) := by
      rw [<- e2u, List.map_append, List.map_take, List.map_drop]; have e := ownu2; rw [Nat.zero_mul, List.drop_zero, List.nil_append, Nat.mul_one, Nat.mul_one, Nat.mul_one, List.take_of_length_le (i := n - (i + 1)) (by have := K2.out.1; rw [List.length_drop]; omega)] at e; exact e
     have HM2 := hE0 (HME.out.below bv22); have hm3 := HM2.out.dset _ _ (aaI hrow2 (Nat.zero_le _)) (fun d hd => HH.out.sl d (by rcases List.mem_append.1 hd with h | h; exact List.mem_of_mem_take h; exact List.mem_of_mem_drop h)); have hto : HT F w p (H.drop i) (v2.setCell ⟨p, 2, none⟩ (.slice uA2 (i + (n - (i + 1))) uc2)) := by
      refine ⟨_, ⟨_, _, _, _, hm3⟩, ?_, fun k hk => ?_⟩
      · exact (HTC.out.trans (Tch.of_below (S := F) bv22) (fun _ _ h => h)).trans (Tch.set v2 ⟨p, 2, none⟩ _ HH.out.fp) (fun _ _ h => h)
      · have hs1 := HSZ.out; rcases hk with (hk | hk) | hk
        · exact .inl hk
        · exact .inr (by have := (HL1.out k hk).1; omega)
        · exact .inr (by have := (hrow2.lt k hk).1; have := HTC.out.size; omega)
     have HTO := hE0 hto; clear e2u s12 s22 owny2 ownx2 ownu2 bx2 bz2 bv2 hx2 hrow2 hm3 hto bz22 bv22; have q2 := HM2.out.c2; have f2 := HM2.out.thaw 2; have hp2 := HM2.out.lt; refine aaO (l := ?la2ba) (t := ?tl2ba) ?hla2ba ?htl2ba ?_
     case hla2ba => simp only [pick, lE1, lE2, lE3]; rfl
     case htl2ba => simp only [pick, lE1, lE2, lE3]; rfl
     repeat (go_big_quiet_step (fail))
     refine wpQuiet_nil ?_; go_wp2
     go_end0
     exact ⟨rfl, HTO.out⟩
   · go_enter Tryz.func69, Tryz.ntmps69
     go_wp2_with fail
     refine aan wd.heap.size (.one [0, 2, 3, 4, 5, 6, 7, 9, 10, 11, 12, 13, 14, 15] 1 (.one [] 8 (.one [] 16 (.fin [17, 18])))) [19] (by kernel_rfl) (by kernel_rfl) (by kernel_rfl) (fun _ _ _ _ _ h => h) ?_; rw [HWD1.out]; have t1 : ∀ z : LaterB wd.heap.size wd, z.val.cell? ⟨p, 1, none⟩ = some (.slice (some ⟨b1, 0, none⟩) n c1) := fun z => (z.ext.cell (p := ⟨p, 1, none⟩) hpd1).trans (by have := EE1.out; exact this); refine aau (l := ?seg1bb) ?hseg1bb ?_
     case hseg1bb => simp only [pick, lE1, lE2, lE3]; rfl
     repeat (go_big_quiet_step (fail))
     refine wpQuiet_nil ?_; clear t1; obtain ⟨x1, hx1⟩ := nmE (wd.alloc (.cells #[] 81)); have bx1 := abE hx1; have ownx1 : x1.ownsRow wd.heap.size 81 3 (.slice (some ⟨wd.heap.size, 0, none⟩) 0 0) 0 [] := by rw [<- hx1]; exact World.ownsRow_lit wd _ 0 (Nat.le_refl _) (by unfold maxLen; omega) rfl
     refine aaA (some 5) (w1 := x1) (v := .slice (some ⟨wd.heap.size, 0, none⟩) 0 0) rfl rfl rfl (by rw [<- hx1]; exact aaw rfl rfl (acd wd)) bx1 ⟨wd.heap.size, Nat.le_refl _, ?_⟩; simp only [Act.put, lE4, lE5, lE6]; refine aau (l := []) rfl ?_; refine wpQuiet_nil ?_; have s11 := ((aaX K1.out 0 i (by omega) ⟨b1, 0, none⟩ (.inr (by rw [Nat.zero_mul]))).cap (c' := c1)).below bx1 (fun a e => by cases e; exact hbd1); refine aaQ (some 12) (.tmp 5) (.tmp 11) 54 81 rfl rfl rfl rfl Tryz.underlying54 (.agg #[.int .i64 0, .int .i64 0, .bool false]) 3 24 adg rfl (by decide) wd.heap.size (.slice (some ⟨wd.heap.size, 0, none⟩) 0 0) 0 [] rfl ownx1 (Nat.le_refl _) bx1.size (some ⟨b1, 0, none⟩) i c1 _ rfl ?l11bb s11 ?o11bb (by omega) (by omega) ?_
     case l11bb => have := K1.out.1; rw [List.length_take, List.length_drop]; omega
     case o11bb => exact fun u hu => (abG H.blks) u (List.mem_of_mem_drop (List.mem_of_mem_take hu))
     intro y1 z1 owny1 bz1 _; have bz21 := bx1.trans bz1; refine ⟨wd.heap.size, Nat.le_refl _, ?_⟩; simp only [Act.put, lE4, lE5, lE6]; refine aau (l := []) rfl ?_; refine wpQuiet_nil ?_; have s21 := ((aaX K1.out (i + 1) (n - (i + 1)) (by omega) ⟨b1, (i + 1) * 3, none⟩ (.inr rfl)).cap (c' := c1 - (i + 1))).below bz21 (fun a e => by cases e; exact hbd1); refine aaQ (some 20) (.tmp 12) (.tmp 19) 54 81 rfl rfl rfl rfl Tryz.underlying54 (.agg #[.int .i64 0, .int .i64 0, .bool false]) 3 24 adg rfl (by decide) wd.heap.size y1 (0 + i) _ rfl owny1 (Nat.le_refl _) bz21.size (some ⟨b1, (i + 1) * 3, none⟩) (n - (i + 1)) (c1 - (i + 1)) _ rfl ?l21bb s21 ?o21bb (by omega) (by omega) ?_
     case l21bb => have := K1.out.1; rw [List.length_take, List.length_drop]; omega
     case o21bb => exact fun u hu => (abG H.blks) u (List.mem_of_mem_drop (List.mem_of_mem_take hu))
     intro u1 v1 ownu1 bv1 _; have bv21 := bz21.trans bv1; rw [Nat.zero_add] at ownu1; refine ⟨wd.heap.size, Nat.le_refl _, ?_⟩; simp only [Act.put, lE4, lE5, lE6]; obtain ⟨uA1, uc1, rfl⟩ := aa0 ownu1; have e1u : i + (n - (i + 1)) = (H.blks.take i ++ H.blks.drop (i + 1)).length := by have := HN.out; rw [List.length_append, List.length_take, List.length_drop]; omega
     have hrow1 : v1.ownsRow wd.heap.size 81 3 (.slice uA1 (i + (n - (i + 1))) uc1) (H.blks.take i ++ H.blks.drop (i + 1)).length (aaU (H.blks.take i ++ H.blks.drop (i + 1))) := by
      rw [<- e1u, abN, acf, acg]; have e := ownu1; rw [Nat.zero_mul, List.drop_zero, List.nil_append, List.take_of_length_le (i := (n - (i + 1)) * 3) (by have := K1.out.1; rw [List.length_drop]; omega)] at e; exact e
     have HM1 := hE0 (HH.out.below (HBD.out.trans (by rw [HSZ.out]; exact bv21))); have hm2' := HM1.out.bset _ _ (aaI hrow1 (Nat.zero_le _)); have HB1 := hE0 bv21; have HL1 := hE0 hrow1.lt; clear e1u s11 s21 owny1 ownx1 ownu1 bx1 bz1 bv1 hx1 hrow1 bz21 bv21; have q1 := HM1.out.c1; have f1 := HM1.out.thaw 1; have hp1 := HM1.out.lt; refine aaO (l := ?la1bb) (t := ?tl1bb) ?hla1bb ?htl1bb ?_
     case hla1bb => simp only [pick, lE1, lE2, lE3]; rfl
     case htl1bb => simp only [pick, lE1, lE2, lE3]; rfl
     repeat (go_big_quiet_step (fail))
     refine wpQuiet_nil ?_; go_wp2_with fail
     clear q1 f1 hp1; obtain ⟨v2, hv2⟩ := nmE (v1.setCell ⟨p, 1, none⟩ (.slice uA1 (i + (n - (i + 1))) uc1)); rw [hv2] at hm2'; obtain ⟨we, hwe⟩ := nmE v2.drew; have hbe := adE hwe; have HME := hE0 (hm2'.below hbe); have htc : Tch F w we := ((Tch.of_below (S := F) (HBD.out.trans (by rw [HSZ.out]; exact HB1.out))).trans (by rw [<- hv2]; exact Tch.set v1 ⟨p, 1, none⟩ _ HH.out.fp) (fun _ _ h => h)).trans (Tch.of_below (S := F) hbe) (fun _ _ h => h); have HTC := hE0 htc; have HWD2 : Hid ((v1.setCell ⟨p, 1, none⟩ (.slice uA1 (i + (n - (i + 1))) uc1)).drew = we) := (show _ = _ by rw [hv2]; exact hwe); have hod : we.ownsRow 0 36 1 (.slice (some ⟨b2, 0, none⟩) n c2) n (H.ds.map Prod.fst) := by have e := HME.out.od; rw [<- HDL2.out]; exact e
     have K2 := hE0 hod; have EE2 : Hid (we.cell? ⟨p, 2, none⟩ = some (.slice (some ⟨b2, 0, none⟩) n c2)) := (show _ = _ by have e := HME.out.c2; rw [<- HDL2.out]; exact e); have hpd2 := HME.out.lt; have hbd2 : b2 < we.heap.size := own_lt hod rfl; clear hm2' hv2 hwe hbe htc hod; refine aan we.heap.size (.one [0, 2, 3, 4, 5, 6, 7, 9, 10, 11, 12, 13, 14, 15] 1 (.one [] 8 (.one [] 16 (.fin [17, 18])))) [19] (by kernel_rfl) (by kernel_rfl) (by kernel_rfl) (fun _ _ _ _ _ h => h) ?_; rw [HWD2.out]; have t1 : ∀ z : LaterB we.heap.size we, z.val.cell? ⟨p, 2, none⟩ = some (.slice (some ⟨b2, 0, none⟩) n c2) := fun z => (z.ext.cell (p := ⟨p, 2, none⟩) hpd2).trans (by have := EE2.out; exact this); refine aau (l := ?seg2bb) ?hseg2bb ?_
     case hseg2bb => simp only [pick, lE1, lE2, lE3]; rfl
     repeat (go_big_quiet_step (fail))
     refine wpQuiet_nil ?_; clear t1; obtain ⟨x2, hx2⟩ := nmE (we.alloc (.cells #[] 36)); have bx2 := abE hx2; have ownx2 : x2.ownsRow we.heap.size 36 1 (.slice (some ⟨we.heap.size, 0, none⟩) 0 0) 0 [] := by rw [<- hx2]; exact World.ownsRow_lit we _ 0 (Nat.le_refl _) (by unfold maxLen; omega) rfl
     refine aaA (some 24) (w1 := x2) (v := .slice (some ⟨we.heap.size, 0, none⟩) 0 0) rfl rfl rfl (by rw [<- hx2]; exact aaw rfl rfl (ace we)) bx2 ⟨we.heap.size, Nat.le_refl _, ?_⟩; simp only [Act.put, lE4, lE5, lE6]; refine aau (l := []) rfl ?_; refine wpQuiet_nil ?_; have s12 := ((aaX K2.out 0 i (by omega) ⟨b2, 0, none⟩ (.inr (by rw [Nat.zero_mul]))).cap (c' := c2)).below bx2 (fun a e => by cases e; exact hbd2); refine aaQ (some 31) (.tmp 24) (.tmp 30) 55 36 rfl rfl rfl rfl Tryz.underlying55 (.slice none 0 0) 1 24 acG rfl (by decide) we.heap.size (.slice (some ⟨we.heap.size, 0, none⟩) 0 0) 0 [] rfl ownx2 (Nat.le_refl _) bx2.size (some ⟨b2, 0, none⟩) i c2 _ rfl ?l12bb s12 ?o12bb (by omega) (by omega) ?_
     case l12bb => have := K2.out.1; rw [List.length_take, List.length_drop]; omega
     case o12bb => exact fun u hu => (adh HH.out.sl) u (List.mem_of_mem_drop (List.mem_of_mem_take hu))
     intro y2 z2 owny2 bz2 _; have bz22 := bx2.trans bz2; refine ⟨we.heap.size, Nat.le_refl _, ?_⟩; simp only [Act.put, lE4, lE5, lE6]; refine aau (l := []) rfl ?_; refine wpQuiet_nil ?_; have s22 := ((aaX K2.out (i + 1) (n - (i + 1)) (by omega) ⟨b2, i + 1, none⟩ (.inr (by rw [Nat.mul_one]))).cap (c' := c2 - (i + 1))).below bz22 (fun a e => by cases e; exact hbd2); refine aaQ (some 39) (.tmp 31) (.tmp 38) 55 36 rfl rfl rfl rfl Tryz.underlying55 (.slice none 0 0) 1 24 acG rfl (by decide) we.heap.size y2 (0 + i) _ rfl owny2 (Nat.le_refl _) bz22.size (some ⟨b2, i + 1, none⟩) (n - (i + 1)) (c2 - (i + 1)) _ rfl ?l22bb s22 ?o22bb (by omega) (by omega) ?_
     case l22bb => have := K2.out.1; rw [List.length_take, List.length_drop]; omega
     case o22bb => exact fun u hu => (adh HH.out.sl) u (List.mem_of_mem_drop (List.mem_of_mem_take hu))
     intro u2 v2 ownu2 bv2 _; have bv22 := bz22.trans bv2; rw [Nat.zero_add] at ownu2; refine ⟨we.heap.size, Nat.le_refl _, ?_⟩; simp only [Act.put, lE4, lE5, lE6]; obtain ⟨uA2, uc2, rfl⟩ := aa0 ownu2; have e2u : i + (n - (i + 1)) = (H.ds.take i ++ H.ds.drop (i + 1)).length := by have := HDL2.out; rw [List.length_append, List.length_take, List.length_drop]; omega
     have hrow2 : v2.ownsRow we.heap.size 36 1 (.slice uA2 (i + (n - (i + 1))) uc2) (H.ds.take i ++ H.ds.drop (i + 1)).length ((H.ds.take i ++ H.ds.drop (i + 1)).map Prod.fst) := by
      rw [<- e2u, List.map_append, List.map_take, List.map_drop]; have e := ownu2; rw [Nat.zero_mul, List.drop_zero, List.nil_append, Nat.mul_one, Nat.mul_one, Nat.mul_one, List.take_of_length_le (i := n - (i + 1)) (by have := K2.out.1; rw [List.length_drop]; omega)] at e; exact e
     have HM2 := hE0 (HME.out.below bv22); have hm3 := HM2.out.dset _ _ (aaI hrow2 (Nat.zero_le _)) (fun d hd => HH.out.sl d (by rcases List.mem_append.1 hd with h | h; exact List.mem_of_mem_take h; exact List.mem_of_mem_drop h)); have hto : HT F w p (H.drop i) (v2.setCell ⟨p, 2, none⟩ (.slice uA2 (i + (n - (i + 1))) uc2)) := by
      refine ⟨_, ⟨_, _, _, _, hm3⟩, ?_, fun k hk => ?_⟩
      · exact (HTC.out.trans (Tch.of_below (S := F) bv22) (fun _ _ h => h)).trans (Tch.set v2 ⟨p, 2, none⟩ _ HH.out.fp) (fun _ _ h => h)
      · have hs1 := HSZ.out; rcases hk with (hk | hk) | hk
        · exact .inl hk
        · exact .inr (by have := (HL1.out k hk).1; omega)
        · exact .inr (by have := (hrow2.lt k hk).1; have := HTC.out.size; omega)
     have HTO := hE0 hto; clear e2u s12 s22 owny2 ownx2 ownu2 bx2 bz2 bv2 hx2 hrow2 hm3 hto bz22 bv22; have q2 := HM2.out.c2; have f2 := HM2.out.thaw 2; have hp2 := HM2.out.lt; refine aaO (l := ?la2bb) (t := ?tl2bb) ?hla2bb ?htl2bb ?_
     case hla2bb => simp only [pick, lE1, lE2, lE3]; rfl
     case htl2bb => simp only [pick, lE1, lE2, lE3]; rfl
     repeat (go_big_quiet_step (fail))
     refine wpQuiet_nil ?_; go_wp2
     go_end0
     exact ⟨rfl, HTO.out⟩
end
theorem abB (a : Act) (d : Tmp) (v : Value) (hd : d < a.tmps.size) (s : Tmp) : (a.put (some d) v).eval (.tmp s) = if s = d then v else a.eval (.tmp s) := by
 show (a.tmps.setIfInBounds d v).getD s undef = _; by_cases h : s = d
 · subst h; rw [if_pos rfl, Array.getD_eq_getD_getElem?, Array.getElem?_setIfInBounds_self_of_lt hd]; rfl
 · rw [if_neg h, Array.getD_eq_getD_getElem?, Array.getElem?_setIfInBounds_ne (fun e => h e.symm), <- Array.getD_eq_getD_getElem?]; rfl
theorem abl (a : Act) (d : Option Tmp) (v : Value) : (a.put d v).tmps.size = a.tmps.size := by
 cases d with
 | none => rfl
 | some d => exact Array.size_setIfInBounds
theorem agC (a : Act) (d d' : Tmp) (v v' : Value) (h : d ≠ d') : (a.put (some d) v).put (some d') v' = (a.put (some d') v').put (some d) v := by
 show Act.mk _ _ = Act.mk _ _; congr 1; exact Array.setIfInBounds_comm _ _ h
section
variable {P : Program} {ops : Array Oper} {Q : Exit -> Act -> World -> Prop} {T : List Nat} {X : PT} {a : Act} {w : World} {e t : TypeId} {z : Value} {size bytes : Nat} {i1 i8 i10 i11 i18 : Nat} {d1 d8 d10 d11 d18 s8 s18 s10 : Tmp} {o1 o8 o10 o11 o18 : Oper}
 {A1 A2 : Option Addr} {m1 c1 m2 c2 : Nat} {n1 n2 : List Value} {cv : Array Value}
structure Mid (P : Program) (ops : Array Oper) (a : Act) (w : World) (e t : TypeId) (z : Value) (size bytes : Nat) (i1 i8 i10 i11 i18 : Nat) (d1 d8 d10 d11 d18 s8 s18 s10 : Tmp) (o1 o8 o10 o11 o18 : Oper) (A1 A2 : Option Addr) (m1 c1 m2 c2 : Nat) (n1 n2 : List Value) (cv : Array Value) : Prop where
 g1 : ops[i1]? = some o1 /\ o1.dst = some d1 /\ ∀ y, Region.wanted o1 y = true
 g8 : ops[i8]? = some o8 /\ o8.dst = some d8 /\ ∀ y, Region.wanted o8 y = true
 g10 : ops[i10]? = some o10 /\ o10.dst = some d10 /\ ∀ y, Region.wanted o10 y = true
 g11 : ops[i11]? = some o11 /\ o11.dst = some d11 /\ ∀ y, Region.wanted o11 y = true
 g18 : ops[i18]? = some o18 /\ o18.dst = some d18 /\ ∀ y, Region.wanted o18 y = true
 r1 : ∀ (b : Act) (v : World), (execOp b.eval o1).run P v = .ok (.value (.slice (some ⟨v.heap.size, 0, none⟩) 0 0)) (v.alloc (.cells #[] e))
 r10 : ∀ (b : Act) (v : World), b.eval (.tmp s10) = a.eval (.tmp s10) -> (execOp b.eval o10).run P v = .ok (.value (.slice (some ⟨v.heap.size, 0, none⟩) 1 1)) (v.alloc (.cells cv e))
 k8 : o8.op = .call { callee := .builtin .append, args := #[.tmp d1, .tmp s8], argTypes := #[t, t] }
 k11 : o11.op = .call { callee := .builtin .append, args := #[.tmp d8, .tmp d10], argTypes := #[t, t] }
 k18 : o18.op = .call { callee := .builtin .append, args := #[.tmp d11, .tmp s18], argTypes := #[t, t] }
 ht : P.underlying t = some (.slice e)
 info : (P.info? e).map (fun i => (i.zero, i.size, i.bytes)) = some (some z, size, bytes)
 hz : z.cells.size = size
 h0 : 0 < size
 hby : bytes <= 1000
 ne : [d1, d8, d10, d11, d18].Nodup /\ ∀ s ∈ [s8, s18, s10], s ∉ [d1, d8, d10, d11, d18]
 lt : d1 < a.tmps.size /\ d8 < a.tmps.size /\ d10 < a.tmps.size /\ d11 < a.tmps.size /\ d18 < a.tmps.size
 e8 : a.eval (.tmp s8) = .slice A1 m1 c1
 e18 : a.eval (.tmp s18) = .slice A2 m2 c2
 l1 : n1.length = m1 * size
 l2 : n2.length = m2 * size
 q1 : Src w A1 m1 c1 n1
 q2 : Src w A2 m2 c2 n2
 b1 : ∀ ad, A1 = some ad -> ad.block < w.heap.size
 b2 : ∀ ad, A2 = some ad -> ad.block < w.heap.size
 u1 : ∀ u ∈ n1, u.oneCell' = true
 u2 : ∀ u ∈ n2, u.oneCell' = true
 cvl : cv.size = size
 cvu : ∀ u ∈ cv.toList, u.oneCell' = true
 small : m1 + m2 <= 900000
variable (M : Mid P ops a w e t z size bytes i1 i8 i10 i11 i18 d1 d8 d10 d11 d18 s8 s18 s10 o1 o8 o10 o11 o18 A1 A2 m1 c1 m2 c2 n1 n2 cv)
def ap7 (P : Program) (ops : Array Oper) (Q : Exit -> Act -> World -> Prop) (T : List Nat) (X : PT) (a : Act) (w : World) (e : TypeId) (size : Nat) (d1 d8 d10 d11 d18 : Tmp) (m1 m2 : Nat) (n1 n2 : List Value) (cv : Array Value) : Prop :=
 ∀ v1 v8 v10 v11 v18 w', w'.ownsRow w.heap.size e size v18 (m1 + 1 + m2) (n1 ++ (cv.toList ++ n2)) -> Below w.heap.size w w' -> X.wp P ops Q T w.heap.size (((((a.put (some d1) v1).put (some d8) v8).put (some d10) v10).put (some d11) v11).put (some d18) v18) w'
include M
theorem aiq (hK : ap7 P ops Q T X a w e size d1 d8 d10 d11 d18 m1 m2 n1 n2 cv) (v1 v8 v10 : Value) (g10 : Nat) (w3 : World) (hv10 : v10 = .slice (some ⟨g10, 0, none⟩) 1 1) (hg : w3.heap[g10]? = some (.cells cv e (0, 0))) (hown : w3.ownsRow w.heap.size e size v8 m1 n1) (hb : Below w.heap.size w w3) :
 (PT.one [] i11 (.one [] i18 X)).wp P ops Q T w.heap.size (((a.put (some d1) v1).put (some d8) v8).put (some d10) v10) w3 := by
 obtain ⟨lt1, lt8, lt10, lt11, lt18⟩ := M.lt; have ne := M.ne.1; simp only [List.nodup_cons, List.mem_cons, List.not_mem_nil, or_false, not_or, List.nodup_nil, and_true] at ne; have n18 := M.ne.2 s18 (by simp); simp only [List.mem_cons, List.not_mem_nil, or_false, not_or] at n18; have hsrc : Src w3 (some ⟨g10, 0, none⟩) 1 1 cv.toList := ⟨fun e => (by cases e), fun ad ea j u hu => by
  injection ea with ea; subst ea; have ea : (⟨g10, 0, none⟩ : Addr).add j = ⟨g10, j, none⟩ := by unfold Addr.add; split <;> simp_all
  rw [ea, cell_of_row w3 _ j _ _ (0, 0) hg]; simpa using hu⟩
 refine aau (l := []) rfl (wpQuiet_nil ?_); refine aaQ (some d11) (.tmp d8) (.tmp d10) t e M.g11.1 M.g11.2.1 (M.g11.2.2 _) M.k11 M.ht z size bytes M.info M.hz M.h0 w.heap.size v8 m1 n1 ?_ hown (Nat.le_refl _) hb.size (some ⟨g10, 0, none⟩) 1 1 cv.toList ?_ (by rw [Array.length_toList, M.cvl]; omega) hsrc M.cvu (by have := M.small; omega) M.hby ?_
 · rw [abB _ _ _ (by rw [abl, abl]; exact lt10), if_neg ne.2.1.1, abB _ _ _ (by rw [abl]; exact lt8), if_pos rfl]
 · rw [abB _ _ _ (by rw [abl, abl]; exact lt10), if_pos rfl, hv10]
 intro v11 w4 own4 hb4 _; have hb04 := hb.trans hb4; refine ⟨w.heap.size, Nat.le_refl _, ?_⟩; refine aau (l := []) rfl (wpQuiet_nil ?_); refine aaQ (some d18) (.tmp d11) (.tmp s18) t e M.g18.1 M.g18.2.1 (M.g18.2.2 _) M.k18 M.ht z size bytes M.info M.hz M.h0 w.heap.size v11 (m1 + 1) (n1 ++ cv.toList) ?_ own4 (Nat.le_refl _) hb04.size A2 m2 c2 n2 ?_ M.l2 (M.q2.below hb04 M.b2) M.u2 (by have := M.small; omega) M.hby ?_
 · rw [abB _ _ _ (by rw [abl, abl, abl]; exact lt11), if_pos rfl]
 · rw [abB _ _ _ (by rw [abl, abl, abl]; exact lt11), if_neg n18.2.2.2.1, abB _ _ _ (by rw [abl, abl]; exact lt10), if_neg n18.2.2.1, abB _ _ _ (by rw [abl]; exact lt8), if_neg n18.2.1, abB _ _ _ lt1, if_neg n18.1, M.e18]
 intro v18 w5 own5 hb5 _; refine ⟨w.heap.size, Nat.le_refl _, ?_⟩; exact hK v1 v8 v10 v11 v18 w5 (by rw [<- List.append_assoc]; exact own5) (hb04.trans hb5)
theorem aqn (hK : ap7 P ops Q T X a w e size d1 d8 d10 d11 d18 m1 m2 n1 n2 cv) :
 wpOp P ops Q i1 (fun a'' w'' => Below w.heap.size w w'' /\ ∃ B', w.heap.size <= B' /\ (PT.two [] i8 (.one [] i10 (.one [] i11 (.one [] i18 X))) i10 (.one [] i8 (.one [] i11 (.one [] i18 X)))).wp P ops Q T B' a'' w'') a w := by
 obtain ⟨lt1, lt8, lt10, lt11, lt18⟩ := M.lt; have ne := M.ne.1; simp only [List.nodup_cons, List.mem_cons, List.not_mem_nil, or_false, not_or, List.nodup_nil, and_true] at ne; have n8 := M.ne.2 s8 (by simp); have n10 := M.ne.2 s10 (by simp); simp only [List.mem_cons, List.not_mem_nil, or_false, not_or] at n8 n10; obtain ⟨w1, hw1⟩ := nmE (w.alloc (.cells #[] e)); have b1 := abE hw1; have own1 : w1.ownsRow w.heap.size e size (.slice (some ⟨w.heap.size, 0, none⟩) 0 0) 0 [] := by rw [<- hw1]; exact World.ownsRow_lit w _ 0 (Nat.le_refl _) (by unfold maxLen; omega) (by simp)
 refine aaA (some d1) M.g1.1 M.g1.2.1 (M.g1.2.2 _) (by rw [M.r1, hw1]) b1 ⟨w.heap.size, Nat.le_refl _, ?_⟩; obtain ⟨a1, ha1⟩ := nmE (a.put (some d1) (.slice (some ⟨w.heap.size, 0, none⟩) 0 0)); have ev1 : ∀ s, a1.eval (.tmp s) = if s = d1 then .slice (some ⟨w.heap.size, 0, none⟩) 0 0 else a.eval (.tmp s) := fun s => by rw [<- ha1, abB _ _ _ lt1]
 have sz1 : a1.tmps.size = a.tmps.size := by rw [<- ha1, abl]
 rw [ha1]; refine aci (l := []) rfl (wpQuiet_nil ⟨?_, ?_⟩)
 · refine aaQ (some d8) (.tmp d1) (.tmp s8) t e M.g8.1 M.g8.2.1 (M.g8.2.2 _) M.k8 M.ht z size bytes M.info M.hz M.h0 w.heap.size _ 0 [] (by rw [ev1, if_pos rfl]) own1 (Nat.le_refl _) b1.size A1 m1 c1 n1 (by rw [ev1, if_neg n8.1, M.e8]) M.l1 (M.q1.below b1 M.b1) M.u1 (by have := M.small; omega) M.hby ?_; intro v8 w2 own2 hb2 _; rw [Nat.zero_add, List.nil_append] at own2; have hb02 := b1.trans hb2; refine ⟨w.heap.size, Nat.le_refl _, ?_⟩; refine aau (l := []) rfl (wpQuiet_nil ?_); obtain ⟨w3, hw3⟩ := nmE (w2.alloc (.cells cv e)); have b3 := abE hw3; refine aaA (some d10) M.g10.1 M.g10.2.1 (M.g10.2.2 _) (by rw [M.r10 _ w2 (by rw [abB _ _ _ (by rw [sz1]; exact lt8), if_neg n10.2.1, ev1, if_neg n10.1]), hw3]) (b3.mono hb02.size) ⟨w.heap.size, Nat.le_refl _, ?_⟩; rw [<- ha1]; refine aiq M hK _ v8 _ w2.heap.size w3 rfl (by rw [<- hw3]; exact heap_alloc_new w2 _) (aay own2 b3) (hb02.trans (b3.mono hb02.size))
 · obtain ⟨w2, hw2⟩ := nmE (w1.alloc (.cells cv e)); have b2 := abE hw2; have hb02 := b1.trans (b2.mono b1.size); refine aaA (some d10) M.g10.1 M.g10.2.1 (M.g10.2.2 _) (by rw [M.r10 _ w1 (by rw [ev1, if_neg n10.1]), hw2]) (b2.mono b1.size) ⟨w.heap.size, Nat.le_refl _, ?_⟩; refine aau (l := []) rfl (wpQuiet_nil ?_); have n2' : w2.heap[w1.heap.size]? = some (.cells cv e (0, 0)) := by rw [<- hw2]; exact heap_alloc_new w1 _
   have hw1lt : w1.heap.size < w2.heap.size := aab n2'; refine aaQ (some d8) (.tmp d1) (.tmp s8) t e M.g8.1 M.g8.2.1 (M.g8.2.2 _) M.k8 M.ht z size bytes M.info M.hz M.h0 w.heap.size (.slice (some ⟨w.heap.size, 0, none⟩) 0 0) 0 [] ?_ (aay own1 b2) (Nat.le_refl _) hb02.size A1 m1 c1 n1 ?_ M.l1 (M.q1.below hb02 M.b1) M.u1 (by have := M.small; omega) M.hby ?_
   · rw [abB _ _ _ (by rw [sz1]; exact lt10), if_neg (fun h => ne.1.2.1 h), ev1, if_pos rfl]
   · rw [abB _ _ _ (by rw [sz1]; exact lt10), if_neg n8.2.2.1, ev1, if_neg n8.1, M.e8]
   intro v8 w3 own3 hb3 gr3; rw [Nat.zero_add, List.nil_append] at own3; refine ⟨w.heap.size, Nat.le_refl _, ?_⟩; rw [agC _ d10 d8 _ _ (fun h => ne.2.1.1 h.symm), <- ha1]; have hg3 : w3.heap[w1.heap.size]? = some (.cells cv e (0, 0)) := (gr3.block _ hw1lt (fun h => by injection h with h; dsimp only at h; have hs : w.heap.size < w1.heap.size := (by rw [<- hw1]; simp); omega)).trans n2'; exact aiq M hK _ v8 _ w1.heap.size w3 rfl hg3 own3 (hb02.trans hb3)
theorem aqo (hK : ap7 P ops Q T X a w e size d1 d8 d10 d11 d18 m1 m2 n1 n2 cv) :
 wpOp P ops Q i10 (fun a'' w'' => Below w.heap.size w w'' /\ ∃ B', w.heap.size <= B' /\ (PT.one [] i1 (.one [] i8 (.one [] i11 (.one [] i18 X)))).wp P ops Q T B' a'' w'') a w := by
 obtain ⟨lt1, lt8, lt10, lt11, lt18⟩ := M.lt; have ne := M.ne.1; simp only [List.nodup_cons, List.mem_cons, List.not_mem_nil, or_false, not_or, List.nodup_nil, and_true] at ne; have n8 := M.ne.2 s8 (by simp); simp only [List.mem_cons, List.not_mem_nil, or_false, not_or] at n8; obtain ⟨w1, hw1⟩ := nmE (w.alloc (.cells cv e)); have b1 := abE hw1; have g1 := anE hw1; refine aaA (some d10) M.g10.1 M.g10.2.1 (M.g10.2.2 _) (by rw [M.r10 _ w rfl, hw1]) b1 ⟨w.heap.size, Nat.le_refl _, ?_⟩; refine aau (l := []) rfl (wpQuiet_nil ?_); obtain ⟨w2, hw2⟩ := nmE (w1.alloc (.cells #[] e)); have b2 := abE hw2; have hb02 := b1.trans (b2.mono b1.size); have own2 : w2.ownsRow w.heap.size e size (.slice (some ⟨w1.heap.size, 0, none⟩) 0 0) 0 [] := by rw [<- hw2]; exact World.ownsRow_lit w1 _ 0 b1.size (by unfold maxLen; omega) (by simp)
 have hlt1 : w.heap.size < w1.heap.size := aab g1; refine aaA (some d1) M.g1.1 M.g1.2.1 (M.g1.2.2 _) (by rw [M.r1, hw2]) (b2.mono b1.size) ⟨w.heap.size, Nat.le_refl _, ?_⟩; refine aau (l := []) rfl (wpQuiet_nil ?_); refine aaQ (some d8) (.tmp d1) (.tmp s8) t e M.g8.1 M.g8.2.1 (M.g8.2.2 _) M.k8 M.ht z size bytes M.info M.hz M.h0 w.heap.size (.slice (some ⟨w1.heap.size, 0, none⟩) 0 0) 0 [] ?_ own2 (Nat.le_refl _) hb02.size A1 m1 c1 n1 ?_ M.l1 (M.q1.below hb02 M.b1) M.u1 (by have := M.small; omega) M.hby ?_
 · rw [abB _ _ _ (by rw [abl]; exact lt1), if_pos rfl]
 · rw [abB _ _ _ (by rw [abl]; exact lt1), if_neg n8.1, abB _ _ _ lt10, if_neg n8.2.2.1, M.e8]
 intro v8 w3 own3 hb3 gr3; rw [Nat.zero_add, List.nil_append] at own3; refine ⟨w.heap.size, Nat.le_refl _, ?_⟩; have hg3 : w3.heap[w.heap.size]? = some (.cells cv e (0, 0)) := (gr3.block _ (Nat.lt_of_lt_of_le hlt1 b2.size) (fun h => by injection h with h; dsimp only at h; omega)).trans ((b2.block _ hlt1).trans g1); rw [agC _ d10 d1 _ _ (fun h => ne.1.2.1 h.symm), agC _ d10 d8 _ _ (fun h => ne.2.1.1 h.symm)]; exact aiq M hK _ v8 _ w.heap.size w3 rfl hg3 own3 (hb02.trans hb3)
theorem adF (hK : ap7 P ops Q T X a w e size d1 d8 d10 d11 d18 m1 m2 n1 n2 cv) :
 wpOp P ops Q i1 (fun a'' w'' => Below w.heap.size w w'' /\ ∃ B', w.heap.size <= B' /\ (PT.two [] i8 (.one [] i10 (.one [] i11 (.one [] i18 X))) i10 (.one [] i8 (.one [] i11 (.one [] i18 X)))).wp P ops Q T B' a'' w'') a w /\
 wpOp P ops Q i10 (fun a'' w'' => Below w.heap.size w w'' /\ ∃ B', w.heap.size <= B' /\ (PT.one [] i1 (.one [] i8 (.one [] i11 (.one [] i18 X)))).wp P ops Q T B' a'' w'') a w := ⟨aqn M hK, aqo M hK⟩
end
theorem ae7 (w : World) (o s : Int) (u : Bool) : (Instr.buildSlice 54 1 #[(0, .agg #[.int .i64 o, .int .i64 s, .bool u])]).run Tryz.prog w = .ok (.slice (some ⟨w.heap.size, 0, none⟩) 1 1) (w.alloc (.cells #[.int .i64 o, .int .i64 s, .bool u] 81)) := by
 simp [go_sem]
theorem ae8 (w : World) : (Instr.buildSlice 55 1 #[(0, .slice none 0 0)]).run Tryz.prog w = .ok (.slice (some ⟨w.heap.size, 0, none⟩) 1 1) (w.alloc (.cells #[.slice none 0 0] 36)) := by
 simp [go_sem]
theorem agD (w : World) (m : Nat) (hm : m = 0) : Src w none m 0 [] := ⟨fun _ => ⟨hm, rfl, rfl⟩, fun ad e => (by cases e)⟩
section
variable {F : Nat -> Prop} {w w' : World} {p gl : Nat} {H : Hp} {Vb Vd : Value} {cs : List Value}
theorem ale {n size : Nat} {t : TypeId} {V : Value} {xs : List Value} (h : w.ownsRow 0 t size V n xs) (i : Nat) (hi : i <= n) : (V = .slice none 0 0 /\ n = 0 /\ i = 0) \/ (∃ b, V = .slice (some ⟨b, 0, none⟩) n i /\ b < w.heap.size /\ n = i /\ i <= 9223372036854775807) \/ ∃ b c, V = .slice (some ⟨b, 0, none⟩) n c /\ b < w.heap.size /\ n <= c /\ c ≠ i /\ c <= 9223372036854775807 := by
 rcases h.2 with ⟨rfl, h0⟩ | ⟨b, c, cur, rfl, _, hh, hnc, hm, _⟩
 · exact .inl ⟨rfl, h0, by omega⟩
 · unfold maxLen at hm; by_cases hc : c = i
   · subst hc; exact .inr (.inl ⟨b, rfl, aab hh, by omega, hm⟩)
   · exact .inr (.inr ⟨b, c, rfl, aab hh, hnc, hc, hm⟩)
theorem amE (n i : Nat) (h : Hm F w p H Vb Vd gl cs) (hN : H.blks.length = n) (hi : i <= n) (hn : n <= 100000) (hdl : H.ds.length = n) (x : Bk) :
 Calls Tryz.prog 99 #[.pointer (some ⟨p, 0, none⟩), .int .i64 (i : Int), .agg #[.int .i64 (x.off : Int), .int .i64 (x.size : Int), .bool x.used]] w fun e w' => e = .returned (.tuple #[]) /\ HT F w p (H.put i x) w' := by
 obtain ⟨w0, hw0⟩ := nmE (w.alloc (.cells #[.int .i64 (x.off : Int), .int .i64 (x.size : Int), .bool x.used] 81)); obtain ⟨wd, hwd⟩ := nmE w0.drew; have hbd : Below w.heap.size w wd := by rw [<- hwd, <- hw0]; exact ((Below.refl _ _).alloc (Nat.le_refl _) _).drew
 obtain ⟨gx, hgxe⟩ := nmE w.heap.size; have hnx : wd.heap[gx]? = some (.cells #[.int .i64 (x.off : Int), .int .i64 (x.size : Int), .bool x.used] 81 (0, 0)) := by rw [<- hwd, <- hw0, <- hgxe]; exact heap_alloc_new w _
 have GX := hE0 (aad hnx).1; have hgx : gx < wd.heap.size := aab hnx; have HH := hE0 h; have HH1 := hE0 (h.below hbd); have HN := hE0 hN; have HDL : Hid (H.ds.length = n) := hdl; have HGX := hE0 hgxe; have HWD1 : Hid ((w.alloc (.cells #[.int .i64 (x.off : Int), .int .i64 (x.size : Int), .bool x.used] 81)).drew = wd) := (show _ = _ by rw [hw0]; exact hwd); have HBD := hE0 hbd; have EE1 := hE0 HH1.out.c1; have hpd1 := HH1.out.lt; have hob : wd.ownsRow 0 81 3 Vb n (aaU H.blks) := by have e := HH1.out.ob; rw [hN] at e; exact e
 have HOB := hE0 hob; clear h hN hdl hw0 hwd hbd hgxe hnx hob; go_enter Tryz.func99, Tryz.ntmps99
 go_wp2_with fail
 rw [HGX.out]; go_cut [] from 6 (fun wx => ∃ V1, Hm (fun k => F k \/ V1.ownBlock = some k) wx p { H with blks := H.blks.take i ++ x :: H.blks.drop i } V1 Vd gl cs /\ Tch F w wx /\ ∀ k, V1.ownBlock = some k -> w.heap.size <= k)
 case first =>
  have hob := HOB.out; clear HOB; rcases ale hob i hi with ⟨rfl, hz1, _⟩ | ⟨b1, rfl, _, hf1, _⟩ | ⟨b1, c1, rfl, _, hc1, hd1, _⟩
  · have HN0 := hE0 hz1; clear hz1 hob; refine aan wd.heap.size (.two [0, 2, 3, 4, 5, 6, 7, 9, 12, 13, 14, 15, 16, 17] 1 (.two [] 8 (.one [] 10 (.one [] 11 (.one [] 18 (.fin [19, 20])))) 10 (.one [] 8 (.one [] 11 (.one [] 18 (.fin [19, 20]))))) 10 (.one [] 1 (.one [] 8 (.one [] 11 (.one [] 18 (.fin [19, 20])))))) [21] (by kernel_rfl) (by kernel_rfl) (by kernel_rfl) (fun _ _ _ _ _ h => h) ?_; rw [HWD1.out]; have t1 : ∀ z : LaterB wd.heap.size wd, z.val.cell? ⟨p, 1, none⟩ = some (.slice none 0 0) := fun z => (z.ext.cell (p := ⟨p, 1, none⟩) hpd1).trans EE1.out; have hi0v : i <= 0 := by have := HN0.out; omega
    have t2 : ∀ z : LaterB wd.heap.size wd, z.val.cell? ⟨gx, 0, none⟩ = some (.int .i64 (x.off : Int)) := fun z => (z.ext.cell (p := ⟨gx, 0, none⟩) hgx).trans GX.out.1; have t3 : ∀ z : LaterB wd.heap.size wd, z.val.cell? ⟨gx, 1, none⟩ = some (.int .i64 (x.size : Int)) := fun z => (z.ext.cell (p := ⟨gx, 1, none⟩) hgx).trans GX.out.2.1; have t4 : ∀ z : LaterB wd.heap.size wd, z.val.cell? ⟨gx, 2, none⟩ = some (.bool x.used) := fun z => (z.ext.cell (p := ⟨gx, 2, none⟩) hgx).trans GX.out.2.2; refine aci (l := ?seg1n) ?hseg1n ?_
    case hseg1n => simp only [pick, lE1, lE2, lE3]; rfl
    repeat (go_big_quiet_step (fail))
    refine wpQuiet_nil ?_; clear t1 t2 t3 t4 hi0v; refine adF (e := 81) (t := 54) (z := (.agg #[.int .i64 0, .int .i64 0, .bool false])) (size := 3) (bytes := 24) (d1 := 7) (d8 := 14) (d10 := 16) (d11 := 17) (d18 := 24) (s8 := 13) (s18 := 23) (s10 := 15) (A1 := none) (A2 := none) (m1 := 0) (c1 := 0) (m2 := 0) (c2 := 0) (n1 := []) (n2 := []) (cv := #[.int .i64 (x.off : Int), .int .i64 (x.size : Int), .bool x.used]) ⟨⟨rfl, rfl, fun _ => rfl⟩, ⟨rfl, rfl, fun _ => rfl⟩, ⟨rfl, rfl, fun _ => rfl⟩, ⟨rfl, rfl, fun _ => rfl⟩, ⟨rfl, rfl, fun _ => rfl⟩, fun b v => aaw rfl rfl (acd v), fun b v hb => aaw rfl (by show [(0, b.eval (.tmp 15))] = _; rw [hb]; rfl) (ae7 v (x.off : Int) (x.size : Int) x.used), rfl, rfl, rfl, Tryz.underlying54, adg, rfl, by decide, by decide, by decide, ⟨Nat.lt_of_lt_of_eq (m := 47) (by decide) rfl, Nat.lt_of_lt_of_eq (m := 47) (by decide) rfl, Nat.lt_of_lt_of_eq (m := 47) (by decide) rfl, Nat.lt_of_lt_of_eq (m := 47) (by decide) rfl, Nat.lt_of_lt_of_eq (m := 47) (by decide) rfl⟩, rfl, rfl, rfl, rfl, (agD _ _ rfl), (agD _ _ rfl), (fun a e => (by cases e)), (fun a e => (by cases e)), (fun u hu => (by cases hu)), (fun u hu => (by cases hu)), rfl, (by intro u hu; simp only [List.mem_cons, List.not_mem_nil, or_false] at hu; rcases hu with rfl | rfl | rfl <;> rfl), by omega⟩ ?_; intro r1 r8 r10 r11 u1 v1 ownu1 bv21; simp only [Act.put, lE4, lE5, lE6]; simp only [Nat.add_zero, Nat.zero_add] at ownu1; obtain ⟨uA1, uc1, rfl⟩ := aa0 ownu1; have hrow1 : v1.ownsRow wd.heap.size 81 3 (.slice uA1 1 uc1) (H.blks.take i ++ x :: H.blks.drop i).length (aaU (H.blks.take i ++ x :: H.blks.drop i)) := by
     have hnil : H.blks = [] := List.eq_nil_of_length_eq_zero (by have := HN.out; have := HN0.out; omega); have e := ownu1; have hi0 : i = 0 := by have := HN0.out; omega
     subst hi0; rw [hnil]; exact e
    have HM1 := hE0 (HH1.out.below bv21); have hm2' := HM1.out.bset _ _ (aaI hrow1 (Nat.zero_le _)); have htc : Tch F w (v1.setCell ⟨p, 1, none⟩ (.slice uA1 (1) uc1)) := (Tch.of_below (S := F) (HBD.out.trans (bv21.mono HBD.out.size))).trans (Tch.set v1 ⟨p, 1, none⟩ _ HH.out.fp) (fun _ _ h => h); have HRES := hE0 (And.intro hm2' (And.intro htc (fun k hk => Nat.le_trans HBD.out.size (hrow1.lt k hk).1))); clear ownu1 hrow1 bv21 hm2' htc; have q1 := HM1.out.c1; have f1 := HM1.out.thaw 1; have hp1 := HM1.out.lt; refine aaO (l := ?la1n) (t := ?tl1n) ?hla1n ?htl1n ?_
    case hla1n => simp only [pick, lE1, lE2, lE3]; rfl
    case htl1n => simp only [pick, lE1, lE2, lE3]; rfl
    repeat (go_big_quiet_step (fail))
    refine wpQuiet_nil ?_; go_wp2_with fail
    go_meet
    case rel => exact ⟨_, HRES.out⟩
  · have HNI := hE0 hf1; clear hf1; have K1 := hE0 hob; have hbd1 : b1 < wd.heap.size := own_lt K1.out rfl; clear hob; refine aan wd.heap.size (.two [0, 2, 3, 4, 5, 6, 7, 9, 12, 13, 14, 15, 16, 17] 1 (.two [] 8 (.one [] 10 (.one [] 11 (.one [] 18 (.fin [19, 20])))) 10 (.one [] 8 (.one [] 11 (.one [] 18 (.fin [19, 20]))))) 10 (.one [] 1 (.one [] 8 (.one [] 11 (.one [] 18 (.fin [19, 20])))))) [21] (by kernel_rfl) (by kernel_rfl) (by kernel_rfl) (fun _ _ _ _ _ h => h) ?_; rw [HWD1.out]; have t1 : ∀ z : LaterB wd.heap.size wd, z.val.cell? ⟨p, 1, none⟩ = some (.slice (some ⟨b1, 0, none⟩) n i) := fun z => (z.ext.cell (p := ⟨p, 1, none⟩) hpd1).trans EE1.out; have t2 : ∀ z : LaterB wd.heap.size wd, z.val.cell? ⟨gx, 0, none⟩ = some (.int .i64 (x.off : Int)) := fun z => (z.ext.cell (p := ⟨gx, 0, none⟩) hgx).trans GX.out.1; have t3 : ∀ z : LaterB wd.heap.size wd, z.val.cell? ⟨gx, 1, none⟩ = some (.int .i64 (x.size : Int)) := fun z => (z.ext.cell (p := ⟨gx, 1, none⟩) hgx).trans GX.out.2.1; have t4 : ∀ z : LaterB wd.heap.size wd, z.val.cell? ⟨gx, 2, none⟩ = some (.bool x.used) := fun z => (z.ext.cell (p := ⟨gx, 2, none⟩) hgx).trans GX.out.2.2; refine aci (l := ?seg1f) ?hseg1f ?_
    case hseg1f => simp only [pick, lE1, lE2, lE3]; rfl
    repeat (go_big_quiet_step (fail))
    refine wpQuiet_nil ?_; clear t1 t2 t3 t4; refine adF (e := 81) (t := 54) (z := (.agg #[.int .i64 0, .int .i64 0, .bool false])) (size := 3) (bytes := 24) (d1 := 7) (d8 := 14) (d10 := 16) (d11 := 17) (d18 := 24) (s8 := 13) (s18 := 23) (s10 := 15) (A1 := (some ⟨b1, 0, none⟩)) (A2 := (some ⟨b1, 0, none⟩)) (m1 := i) (c1 := i) (m2 := (n - i)) (c2 := 0) (n1 := (((aaU H.blks).drop (0 * 3)).take (i * 3))) (n2 := (((aaU H.blks).drop (i * 3)).take ((n - i) * 3))) (cv := #[.int .i64 (x.off : Int), .int .i64 (x.size : Int), .bool x.used]) ⟨⟨rfl, rfl, fun _ => rfl⟩, ⟨rfl, rfl, fun _ => rfl⟩, ⟨rfl, rfl, fun _ => rfl⟩, ⟨rfl, rfl, fun _ => rfl⟩, ⟨rfl, rfl, fun _ => rfl⟩, fun b v => aaw rfl rfl (acd v), fun b v hb => aaw rfl (by show [(0, b.eval (.tmp 15))] = _; rw [hb]; rfl) (ae7 v (x.off : Int) (x.size : Int) x.used), rfl, rfl, rfl, Tryz.underlying54, adg, rfl, by decide, by decide, by decide, ⟨Nat.lt_of_lt_of_eq (m := 47) (by decide) rfl, Nat.lt_of_lt_of_eq (m := 47) (by decide) rfl, Nat.lt_of_lt_of_eq (m := 47) (by decide) rfl, Nat.lt_of_lt_of_eq (m := 47) (by decide) rfl, Nat.lt_of_lt_of_eq (m := 47) (by decide) rfl⟩, rfl, rfl, (by have := K1.out.1; rw [List.length_take, List.length_drop]; omega), (by have := K1.out.1; rw [List.length_take, List.length_drop]; omega), ((aaX K1.out 0 i (by omega) ⟨b1, 0, none⟩ (.inr (by rw [Nat.zero_mul]))).cap (c' := i)), ((aaX K1.out i (n - i) (by omega) ⟨b1, 0, none⟩ (.inl (by have := HNI.out; omega))).cap (c' := 0)), (fun a e => (by cases e; exact hbd1)), (fun a e => (by cases e; exact hbd1)), (fun u hu => (abG H.blks) u (List.mem_of_mem_drop (List.mem_of_mem_take hu))), (fun u hu => (abG H.blks) u (List.mem_of_mem_drop (List.mem_of_mem_take hu))), rfl, (by intro u hu; simp only [List.mem_cons, List.not_mem_nil, or_false] at hu; rcases hu with rfl | rfl | rfl <;> rfl), by omega⟩ ?_; intro r1 r8 r10 r11 u1 v1 ownu1 bv21; simp only [Act.put, lE4, lE5, lE6]; obtain ⟨uA1, uc1, rfl⟩ := aa0 ownu1; have e1u : i + 1 + (n - i) = (H.blks.take i ++ x :: H.blks.drop i).length := by have := HN.out; rw [List.length_append, List.length_take, List.length_cons, List.length_drop]; omega
    have hrow1 : v1.ownsRow wd.heap.size 81 3 (.slice uA1 (i + 1 + (n - i)) uc1) (H.blks.take i ++ x :: H.blks.drop i).length (aaU (H.blks.take i ++ x :: H.blks.drop i)) := by
     rw [<- e1u, abN, acf, show aaU (x :: H.blks.drop i) = [.int .i64 (x.off : Int), .int .i64 (x.size : Int), .bool x.used] ++ aaU (H.blks.drop i) from rfl, acg]; have e := ownu1; rw [Nat.zero_mul, List.drop_zero, List.take_of_length_le (i := (n - i) * 3) (by have := K1.out.1; rw [List.length_drop]; omega)] at e; exact e
    clear e1u; have HM1 := hE0 (HH1.out.below bv21); have hm2' := HM1.out.bset _ _ (aaI hrow1 (Nat.zero_le _)); have htc : Tch F w (v1.setCell ⟨p, 1, none⟩ (.slice uA1 (i + 1 + (n - i)) uc1)) := (Tch.of_below (S := F) (HBD.out.trans (bv21.mono HBD.out.size))).trans (Tch.set v1 ⟨p, 1, none⟩ _ HH.out.fp) (fun _ _ h => h); have HRES := hE0 (And.intro hm2' (And.intro htc (fun k hk => Nat.le_trans HBD.out.size (hrow1.lt k hk).1))); clear ownu1 hrow1 bv21 hm2' htc; have q1 := HM1.out.c1; have f1 := HM1.out.thaw 1; have hp1 := HM1.out.lt; refine aaO (l := ?la1f) (t := ?tl1f) ?hla1f ?htl1f ?_
    case hla1f => simp only [pick, lE1, lE2, lE3]; rfl
    case htl1f => simp only [pick, lE1, lE2, lE3]; rfl
    repeat (go_big_quiet_step (fail))
    refine wpQuiet_nil ?_; go_wp2_with fail
    go_meet
    case rel => exact ⟨_, HRES.out⟩
  · have K1 := hE0 hob; have hbd1 : b1 < wd.heap.size := own_lt K1.out rfl; clear hob; refine aan wd.heap.size (.two [0, 2, 3, 4, 5, 6, 7, 9, 12, 13, 14, 15, 16, 17] 1 (.two [] 8 (.one [] 10 (.one [] 11 (.one [] 18 (.fin [19, 20])))) 10 (.one [] 8 (.one [] 11 (.one [] 18 (.fin [19, 20]))))) 10 (.one [] 1 (.one [] 8 (.one [] 11 (.one [] 18 (.fin [19, 20])))))) [21] (by kernel_rfl) (by kernel_rfl) (by kernel_rfl) (fun _ _ _ _ _ h => h) ?_; rw [HWD1.out]; have t1 : ∀ z : LaterB wd.heap.size wd, z.val.cell? ⟨p, 1, none⟩ = some (.slice (some ⟨b1, 0, none⟩) n c1) := fun z => (z.ext.cell (p := ⟨p, 1, none⟩) hpd1).trans EE1.out; have t2 : ∀ z : LaterB wd.heap.size wd, z.val.cell? ⟨gx, 0, none⟩ = some (.int .i64 (x.off : Int)) := fun z => (z.ext.cell (p := ⟨gx, 0, none⟩) hgx).trans GX.out.1; have t3 : ∀ z : LaterB wd.heap.size wd, z.val.cell? ⟨gx, 1, none⟩ = some (.int .i64 (x.size : Int)) := fun z => (z.ext.cell (p := ⟨gx, 1, none⟩) hgx).trans GX.out.2.1; have t4 : ∀ z : LaterB wd.heap.size wd, z.val.cell? ⟨gx, 2, none⟩ = some (.bool x.used) := fun z => (z.ext.cell (p := ⟨gx, 2, none⟩) hgx).trans GX.out.2.2; refine aci (l := ?seg1g) ?hseg1g ?_
    case hseg1g => simp only [pick, lE1, lE2, lE3]; rfl
    repeat (go_big_quiet_step (fail))
    refine wpQuiet_nil ?_; clear t1 t2 t3 t4; refine adF (e := 81) (t := 54) (z := (.agg #[.int .i64 0, .int .i64 0, .bool false])) (size := 3) (bytes := 24) (d1 := 7) (d8 := 14) (d10 := 16) (d11 := 17) (d18 := 24) (s8 := 13) (s18 := 23) (s10 := 15) (A1 := (some ⟨b1, 0, none⟩)) (A2 := (some ⟨b1, i * 3, none⟩)) (m1 := i) (c1 := c1) (m2 := (n - i)) (c2 := (c1 - i)) (n1 := (((aaU H.blks).drop (0 * 3)).take (i * 3))) (n2 := (((aaU H.blks).drop (i * 3)).take ((n - i) * 3))) (cv := #[.int .i64 (x.off : Int), .int .i64 (x.size : Int), .bool x.used]) ⟨⟨rfl, rfl, fun _ => rfl⟩, ⟨rfl, rfl, fun _ => rfl⟩, ⟨rfl, rfl, fun _ => rfl⟩, ⟨rfl, rfl, fun _ => rfl⟩, ⟨rfl, rfl, fun _ => rfl⟩, fun b v => aaw rfl rfl (acd v), fun b v hb => aaw rfl (by show [(0, b.eval (.tmp 15))] = _; rw [hb]; rfl) (ae7 v (x.off : Int) (x.size : Int) x.used), rfl, rfl, rfl, Tryz.underlying54, adg, rfl, by decide, by decide, by decide, ⟨Nat.lt_of_lt_of_eq (m := 47) (by decide) rfl, Nat.lt_of_lt_of_eq (m := 47) (by decide) rfl, Nat.lt_of_lt_of_eq (m := 47) (by decide) rfl, Nat.lt_of_lt_of_eq (m := 47) (by decide) rfl, Nat.lt_of_lt_of_eq (m := 47) (by decide) rfl⟩, rfl, rfl, (by have := K1.out.1; rw [List.length_take, List.length_drop]; omega), (by have := K1.out.1; rw [List.length_take, List.length_drop]; omega), ((aaX K1.out 0 i (by omega) ⟨b1, 0, none⟩ (.inr (by rw [Nat.zero_mul]))).cap (c' := c1)), ((aaX K1.out i (n - i) (by omega) ⟨b1, i * 3, none⟩ (.inr (by first | rfl | rw [Nat.mul_one]))).cap (c' := c1 - i)), (fun a e => (by cases e; exact hbd1)), (fun a e => (by cases e; exact hbd1)), (fun u hu => (abG H.blks) u (List.mem_of_mem_drop (List.mem_of_mem_take hu))), (fun u hu => (abG H.blks) u (List.mem_of_mem_drop (List.mem_of_mem_take hu))), rfl, (by intro u hu; simp only [List.mem_cons, List.not_mem_nil, or_false] at hu; rcases hu with rfl | rfl | rfl <;> rfl), by omega⟩ ?_; intro r1 r8 r10 r11 u1 v1 ownu1 bv21; simp only [Act.put, lE4, lE5, lE6]; obtain ⟨uA1, uc1, rfl⟩ := aa0 ownu1; have e1u : i + 1 + (n - i) = (H.blks.take i ++ x :: H.blks.drop i).length := by have := HN.out; rw [List.length_append, List.length_take, List.length_cons, List.length_drop]; omega
    have hrow1 : v1.ownsRow wd.heap.size 81 3 (.slice uA1 (i + 1 + (n - i)) uc1) (H.blks.take i ++ x :: H.blks.drop i).length (aaU (H.blks.take i ++ x :: H.blks.drop i)) := by
     rw [<- e1u, abN, acf, show aaU (x :: H.blks.drop i) = [.int .i64 (x.off : Int), .int .i64 (x.size : Int), .bool x.used] ++ aaU (H.blks.drop i) from rfl, acg]; have e := ownu1; rw [Nat.zero_mul, List.drop_zero, List.take_of_length_le (i := (n - i) * 3) (by have := K1.out.1; rw [List.length_drop]; omega)] at e; exact e
    clear e1u; have HM1 := hE0 (HH1.out.below bv21); have hm2' := HM1.out.bset _ _ (aaI hrow1 (Nat.zero_le _)); have htc : Tch F w (v1.setCell ⟨p, 1, none⟩ (.slice uA1 (i + 1 + (n - i)) uc1)) := (Tch.of_below (S := F) (HBD.out.trans (bv21.mono HBD.out.size))).trans (Tch.set v1 ⟨p, 1, none⟩ _ HH.out.fp) (fun _ _ h => h); have HRES := hE0 (And.intro hm2' (And.intro htc (fun k hk => Nat.le_trans HBD.out.size (hrow1.lt k hk).1))); clear ownu1 hrow1 bv21 hm2' htc; have q1 := HM1.out.c1; have f1 := HM1.out.thaw 1; have hp1 := HM1.out.lt; refine aaO (l := ?la1g) (t := ?tl1g) ?hla1g ?htl1g ?_
    case hla1g => simp only [pick, lE1, lE2, lE3]; rfl
    case htl1g => simp only [pick, lE1, lE2, lE3]; rfl
    repeat (go_big_quiet_step (fail))
    refine wpQuiet_nil ?_; go_wp2_with fail
    go_meet
    case rel => exact ⟨_, HRES.out⟩
 case rest =>
  obtain ⟨V1, hm1, htc, hl1⟩ := hcut; clear HOB EE1 hpd1 GX hgx HGX HWD1 HH1; obtain ⟨we, hwe⟩ := nmE wc.drew; have hbe := adE hwe; have HME := hE0 (hm1.below hbe); have HTC := hE0 (htc.trans (Tch.of_below (S := F) hbe) (fun _ _ h => h)); have HL1 := hE0 hl1; have HWD2 := hE0 hwe; have EE2 := hE0 HME.out.c2; have hpd2 := HME.out.lt; have hod : we.ownsRow 0 36 1 Vd n (H.ds.map Prod.fst) := by have e := HME.out.od; dsimp only at e; rw [HDL.out] at e; exact e
  clear hm1 htc hl1 hwe hbe; rcases ale hod i hi with ⟨rfl, hz2, _⟩ | ⟨b2, rfl, _, hf2, _⟩ | ⟨b2, c2, rfl, _, hc2, hd2, _⟩
  · go_wp2_with fail
    have HN0 := hE0 hz2; clear hz2 hod; refine aan we.heap.size (.two [0, 2, 3, 4, 5, 6, 7, 11, 12, 13, 14, 15, 16] 1 (.two [] 8 (.one [] 9 (.one [] 10 (.one [] 17 (.fin [18, 19])))) 9 (.one [] 8 (.one [] 10 (.one [] 17 (.fin [18, 19]))))) 9 (.one [] 1 (.one [] 8 (.one [] 10 (.one [] 17 (.fin [18, 19])))))) [20] (by kernel_rfl) (by kernel_rfl) (by kernel_rfl) (fun _ _ _ _ _ h => h) ?_; rw [HWD2.out]; have t1 : ∀ z : LaterB we.heap.size we, z.val.cell? ⟨p, 2, none⟩ = some (.slice none 0 0) := fun z => (z.ext.cell (p := ⟨p, 2, none⟩) hpd2).trans EE2.out; have hi0v : i <= 0 := by have := HN0.out; omega
    refine aci (l := ?seg2n) ?hseg2n ?_
    case hseg2n => simp only [pick, lE1, lE2, lE3]; rfl
    repeat (go_big_quiet_step (fail))
    refine wpQuiet_nil ?_; clear t1 hi0v; refine adF (e := 36) (t := 55) (z := (.slice none 0 0)) (size := 1) (bytes := 24) (d1 := 28) (d8 := 35) (d10 := 36) (d11 := 37) (d18 := 44) (s8 := 34) (s18 := 43) (s10 := 0) (A1 := none) (A2 := none) (m1 := 0) (c1 := 0) (m2 := 0) (c2 := 0) (n1 := []) (n2 := []) (cv := #[.slice none 0 0]) ⟨⟨rfl, rfl, fun _ => rfl⟩, ⟨rfl, rfl, fun _ => rfl⟩, ⟨rfl, rfl, fun _ => rfl⟩, ⟨rfl, rfl, fun _ => rfl⟩, ⟨rfl, rfl, fun _ => rfl⟩, fun b v => aaw rfl rfl (ace v), fun b v hb => aaw rfl rfl (ae8 v), rfl, rfl, rfl, Tryz.underlying55, acG, rfl, by decide, by decide, by decide, ⟨Nat.lt_of_lt_of_eq (m := 47) (by decide) rfl, Nat.lt_of_lt_of_eq (m := 47) (by decide) rfl, Nat.lt_of_lt_of_eq (m := 47) (by decide) rfl, Nat.lt_of_lt_of_eq (m := 47) (by decide) rfl, Nat.lt_of_lt_of_eq (m := 47) (by decide) rfl⟩, rfl, rfl, rfl, rfl, (agD _ _ rfl), (agD _ _ rfl), (fun a e => (by cases e)), (fun a e => (by cases e)), (fun u hu => (by cases hu)), (fun u hu => (by cases hu)), rfl, (by intro u hu; simp only [List.mem_cons, List.not_mem_nil, or_false] at hu; subst hu; rfl), by omega⟩ ?_; intro r1 r8 r10 r11 u2 v2 ownu2 bv22; simp only [Act.put, lE4, lE5, lE6]; simp only [Nat.add_zero, Nat.zero_add] at ownu2; obtain ⟨uA2, uc2, rfl⟩ := aa0 ownu2; have hrow2 : v2.ownsRow we.heap.size 36 1 (.slice uA2 1 uc2) (H.ds.take i ++ aaR :: H.ds.drop i).length ((H.ds.take i ++ aaR :: H.ds.drop i).map Prod.fst) := by
     have hnil : H.ds = [] := List.eq_nil_of_length_eq_zero (by have := HDL.out; have := HN0.out; omega); have e := ownu2; have hi0 : i = 0 := by have := HN0.out; omega
     subst hi0; rw [hnil]; exact e
    have HM2 := hE0 (HME.out.below bv22); have hm3 := HM2.out.dset _ _ (aaI hrow2 (Nat.zero_le _)) (fun d hd => by
     rcases List.mem_append.1 hd with h | h
     · exact HH.out.sl d (List.mem_of_mem_take h)
     · rcases List.mem_cons.1 h with rfl | h
       · exact ⟨_, _, _, rfl⟩
       · exact HH.out.sl d (List.mem_of_mem_drop h))
    have hto : HT F w p (H.put i x) (v2.setCell ⟨p, 2, none⟩ (.slice uA2 (1) uc2)) := by
     refine ⟨_, ⟨_, _, _, _, hm3⟩, ?_, fun k hk => ?_⟩
     · exact (HTC.out.trans (Tch.of_below (S := F) bv22) (fun _ _ h => h)).trans (Tch.set v2 ⟨p, 2, none⟩ _ HH.out.fp) (fun _ _ h => h)
     · rcases hk with (hk | hk) | hk
       · exact .inl hk
       · exact .inr (HL1.out k hk)
       · exact .inr (by have := (hrow2.lt k hk).1; have := HTC.out.size; omega)
    have HTO := hE0 hto; clear ownu2 hrow2 hm3 hto bv22; have q2 := HM2.out.c2; have f2 := HM2.out.thaw 2; have hp2 := HM2.out.lt; refine aaO (l := ?la2n) (t := ?tl2n) ?hla2n ?htl2n ?_
    case hla2n => simp only [pick, lE1, lE2, lE3]; rfl
    case htl2n => simp only [pick, lE1, lE2, lE3]; rfl
    repeat (go_big_quiet_step (fail))
    refine wpQuiet_nil ?_; go_wp2
    go_end0
    exact ⟨rfl, HTO.out⟩
  · go_wp2_with fail
    have HNI := hE0 hf2; clear hf2; have K2 := hE0 hod; have hbd2 : b2 < we.heap.size := own_lt K2.out rfl; clear hod; refine aan we.heap.size (.two [0, 2, 3, 4, 5, 6, 7, 11, 12, 13, 14, 15, 16] 1 (.two [] 8 (.one [] 9 (.one [] 10 (.one [] 17 (.fin [18, 19])))) 9 (.one [] 8 (.one [] 10 (.one [] 17 (.fin [18, 19]))))) 9 (.one [] 1 (.one [] 8 (.one [] 10 (.one [] 17 (.fin [18, 19])))))) [20] (by kernel_rfl) (by kernel_rfl) (by kernel_rfl) (fun _ _ _ _ _ h => h) ?_; rw [HWD2.out]; have t1 : ∀ z : LaterB we.heap.size we, z.val.cell? ⟨p, 2, none⟩ = some (.slice (some ⟨b2, 0, none⟩) n i) := fun z => (z.ext.cell (p := ⟨p, 2, none⟩) hpd2).trans EE2.out; refine aci (l := ?seg2f) ?hseg2f ?_
    case hseg2f => simp only [pick, lE1, lE2, lE3]; rfl
    repeat (go_big_quiet_step (fail))
    refine wpQuiet_nil ?_; clear t1; refine adF (e := 36) (t := 55) (z := (.slice none 0 0)) (size := 1) (bytes := 24) (d1 := 28) (d8 := 35) (d10 := 36) (d11 := 37) (d18 := 44) (s8 := 34) (s18 := 43) (s10 := 0) (A1 := (some ⟨b2, 0, none⟩)) (A2 := (some ⟨b2, 0, none⟩)) (m1 := i) (c1 := i) (m2 := (n - i)) (c2 := 0) (n1 := (((H.ds.map Prod.fst).drop (0 * 1)).take (i * 1))) (n2 := (((H.ds.map Prod.fst).drop (i * 1)).take ((n - i) * 1))) (cv := #[.slice none 0 0]) ⟨⟨rfl, rfl, fun _ => rfl⟩, ⟨rfl, rfl, fun _ => rfl⟩, ⟨rfl, rfl, fun _ => rfl⟩, ⟨rfl, rfl, fun _ => rfl⟩, ⟨rfl, rfl, fun _ => rfl⟩, fun b v => aaw rfl rfl (ace v), fun b v hb => aaw rfl rfl (ae8 v), rfl, rfl, rfl, Tryz.underlying55, acG, rfl, by decide, by decide, by decide, ⟨Nat.lt_of_lt_of_eq (m := 47) (by decide) rfl, Nat.lt_of_lt_of_eq (m := 47) (by decide) rfl, Nat.lt_of_lt_of_eq (m := 47) (by decide) rfl, Nat.lt_of_lt_of_eq (m := 47) (by decide) rfl, Nat.lt_of_lt_of_eq (m := 47) (by decide) rfl⟩, rfl, rfl, (by have := K2.out.1; rw [List.length_take, List.length_drop]; omega), (by have := K2.out.1; rw [List.length_take, List.length_drop]; omega), ((aaX K2.out 0 i (by omega) ⟨b2, 0, none⟩ (.inr (by rw [Nat.zero_mul]))).cap (c' := i)), ((aaX K2.out i (n - i) (by omega) ⟨b2, 0, none⟩ (.inl (by have := HNI.out; omega))).cap (c' := 0)), (fun a e => (by cases e; exact hbd2)), (fun a e => (by cases e; exact hbd2)), (fun u hu => (adh HH.out.sl) u (List.mem_of_mem_drop (List.mem_of_mem_take hu))), (fun u hu => (adh HH.out.sl) u (List.mem_of_mem_drop (List.mem_of_mem_take hu))), rfl, (by intro u hu; simp only [List.mem_cons, List.not_mem_nil, or_false] at hu; subst hu; rfl), by omega⟩ ?_; intro r1 r8 r10 r11 u2 v2 ownu2 bv22; simp only [Act.put, lE4, lE5, lE6]; obtain ⟨uA2, uc2, rfl⟩ := aa0 ownu2; have e2u : i + 1 + (n - i) = (H.ds.take i ++ aaR :: H.ds.drop i).length := by have := HDL.out; rw [List.length_append, List.length_take, List.length_cons, List.length_drop]; omega
    have hrow2 : v2.ownsRow we.heap.size 36 1 (.slice uA2 (i + 1 + (n - i)) uc2) (H.ds.take i ++ aaR :: H.ds.drop i).length ((H.ds.take i ++ aaR :: H.ds.drop i).map Prod.fst) := by
     rw [<- e2u, List.map_append, List.map_take, List.map_cons, List.map_drop]; have e := ownu2; rw [Nat.zero_mul, List.drop_zero, Nat.mul_one, Nat.mul_one, List.take_of_length_le (i := n - i) (by have := K2.out.1; rw [List.length_drop]; omega)] at e; exact e
    clear e2u; have HM2 := hE0 (HME.out.below bv22); have hm3 := HM2.out.dset _ _ (aaI hrow2 (Nat.zero_le _)) (fun d hd => by
     rcases List.mem_append.1 hd with h | h
     · exact HH.out.sl d (List.mem_of_mem_take h)
     · rcases List.mem_cons.1 h with rfl | h
       · exact ⟨_, _, _, rfl⟩
       · exact HH.out.sl d (List.mem_of_mem_drop h))
    have hto : HT F w p (H.put i x) (v2.setCell ⟨p, 2, none⟩ (.slice uA2 (i + 1 + (n - i)) uc2)) := by
     refine ⟨_, ⟨_, _, _, _, hm3⟩, ?_, fun k hk => ?_⟩
     · exact (HTC.out.trans (Tch.of_below (S := F) bv22) (fun _ _ h => h)).trans (Tch.set v2 ⟨p, 2, none⟩ _ HH.out.fp) (fun _ _ h => h)
     · rcases hk with (hk | hk) | hk
       · exact .inl hk
       · exact .inr (HL1.out k hk)
       · exact .inr (by have := (hrow2.lt k hk).1; have := HTC.out.size; omega)
    have HTO := hE0 hto; clear ownu2 hrow2 hm3 hto bv22; have q2 := HM2.out.c2; have f2 := HM2.out.thaw 2; have hp2 := HM2.out.lt; refine aaO (l := ?la2f) (t := ?tl2f) ?hla2f ?htl2f ?_
    case hla2f => simp only [pick, lE1, lE2, lE3]; rfl
    case htl2f => simp only [pick, lE1, lE2, lE3]; rfl
    repeat (go_big_quiet_step (fail))
    refine wpQuiet_nil ?_; go_wp2
    go_end0
    exact ⟨rfl, HTO.out⟩
  · go_wp2_with fail
    have K2 := hE0 hod; have hbd2 : b2 < we.heap.size := own_lt K2.out rfl; clear hod; refine aan we.heap.size (.two [0, 2, 3, 4, 5, 6, 7, 11, 12, 13, 14, 15, 16] 1 (.two [] 8 (.one [] 9 (.one [] 10 (.one [] 17 (.fin [18, 19])))) 9 (.one [] 8 (.one [] 10 (.one [] 17 (.fin [18, 19]))))) 9 (.one [] 1 (.one [] 8 (.one [] 10 (.one [] 17 (.fin [18, 19])))))) [20] (by kernel_rfl) (by kernel_rfl) (by kernel_rfl) (fun _ _ _ _ _ h => h) ?_; rw [HWD2.out]; have t1 : ∀ z : LaterB we.heap.size we, z.val.cell? ⟨p, 2, none⟩ = some (.slice (some ⟨b2, 0, none⟩) n c2) := fun z => (z.ext.cell (p := ⟨p, 2, none⟩) hpd2).trans EE2.out; refine aci (l := ?seg2g) ?hseg2g ?_
    case hseg2g => simp only [pick, lE1, lE2, lE3]; rfl
    repeat (go_big_quiet_step (fail))
    refine wpQuiet_nil ?_; clear t1; refine adF (e := 36) (t := 55) (z := (.slice none 0 0)) (size := 1) (bytes := 24) (d1 := 28) (d8 := 35) (d10 := 36) (d11 := 37) (d18 := 44) (s8 := 34) (s18 := 43) (s10 := 0) (A1 := (some ⟨b2, 0, none⟩)) (A2 := (some ⟨b2, i, none⟩)) (m1 := i) (c1 := c2) (m2 := (n - i)) (c2 := (c2 - i)) (n1 := (((H.ds.map Prod.fst).drop (0 * 1)).take (i * 1))) (n2 := (((H.ds.map Prod.fst).drop (i * 1)).take ((n - i) * 1))) (cv := #[.slice none 0 0]) ⟨⟨rfl, rfl, fun _ => rfl⟩, ⟨rfl, rfl, fun _ => rfl⟩, ⟨rfl, rfl, fun _ => rfl⟩, ⟨rfl, rfl, fun _ => rfl⟩, ⟨rfl, rfl, fun _ => rfl⟩, fun b v => aaw rfl rfl (ace v), fun b v hb => aaw rfl rfl (ae8 v), rfl, rfl, rfl, Tryz.underlying55, acG, rfl, by decide, by decide, by decide, ⟨Nat.lt_of_lt_of_eq (m := 47) (by decide) rfl, Nat.lt_of_lt_of_eq (m := 47) (by decide) rfl, Nat.lt_of_lt_of_eq (m := 47) (by decide) rfl, Nat.lt_of_lt_of_eq (m := 47) (by decide) rfl, Nat.lt_of_lt_of_eq (m := 47) (by decide) rfl⟩, rfl, rfl, (by have := K2.out.1; rw [List.length_take, List.length_drop]; omega), (by have := K2.out.1; rw [List.length_take, List.length_drop]; omega), ((aaX K2.out 0 i (by omega) ⟨b2, 0, none⟩ (.inr (by rw [Nat.zero_mul]))).cap (c' := c2)), ((aaX K2.out i (n - i) (by omega) ⟨b2, i, none⟩ (.inr (by first | rfl | rw [Nat.mul_one]))).cap (c' := c2 - i)), (fun a e => (by cases e; exact hbd2)), (fun a e => (by cases e; exact hbd2)), (fun u hu => (adh HH.out.sl) u (List.mem_of_mem_drop (List.mem_of_mem_take hu))), (fun u hu => (adh HH.out.sl) u (List.mem_of_mem_drop (List.mem_of_mem_take hu))), rfl, (by intro u hu; simp only [List.mem_cons, List.not_mem_nil, or_false] at hu; subst hu; rfl), by omega⟩ ?_; intro r1 r8 r10 r11 u2 v2 ownu2 bv22; simp only [Act.put, lE4, lE5, lE6]; obtain ⟨uA2, uc2, rfl⟩ := aa0 ownu2; have e2u : i + 1 + (n - i) = (H.ds.take i ++ aaR :: H.ds.drop i).length := by have := HDL.out; rw [List.length_append, List.length_take, List.length_cons, List.length_drop]; omega
    have hrow2 : v2.ownsRow we.heap.size 36 1 (.slice uA2 (i + 1 + (n - i)) uc2) (H.ds.take i ++ aaR :: H.ds.drop i).length ((H.ds.take i ++ aaR :: H.ds.drop i).map Prod.fst) := by
     rw [<- e2u, List.map_append, List.map_take, List.map_cons, List.map_drop]; have e := ownu2; rw [Nat.zero_mul, List.drop_zero, Nat.mul_one, Nat.mul_one, List.take_of_length_le (i := n - i) (by have := K2.out.1; rw [List.length_drop]; omega)] at e; exact e
    clear e2u; have HM2 := hE0 (HME.out.below bv22); have hm3 := HM2.out.dset _ _ (aaI hrow2 (Nat.zero_le _)) (fun d hd => by
     rcases List.mem_append.1 hd with h | h
     · exact HH.out.sl d (List.mem_of_mem_take h)
     · rcases List.mem_cons.1 h with rfl | h
       · exact ⟨_, _, _, rfl⟩
       · exact HH.out.sl d (List.mem_of_mem_drop h))
    have hto : HT F w p (H.put i x) (v2.setCell ⟨p, 2, none⟩ (.slice uA2 (i + 1 + (n - i)) uc2)) := by
     refine ⟨_, ⟨_, _, _, _, hm3⟩, ?_, fun k hk => ?_⟩
     · exact (HTC.out.trans (Tch.of_below (S := F) bv22) (fun _ _ h => h)).trans (Tch.set v2 ⟨p, 2, none⟩ _ HH.out.fp) (fun _ _ h => h)
     · rcases hk with (hk | hk) | hk
       · exact .inl hk
       · exact .inr (HL1.out k hk)
       · exact .inr (by have := (hrow2.lt k hk).1; have := HTC.out.size; omega)
    have HTO := hE0 hto; clear ownu2 hrow2 hm3 hto bv22; have q2 := HM2.out.c2; have f2 := HM2.out.thaw 2; have hp2 := HM2.out.lt; refine aaO (l := ?la2g) (t := ?tl2g) ?hla2g ?htl2g ?_
    case hla2g => simp only [pick, lE1, lE2, lE3]; rfl
    case htl2g => simp only [pick, lE1, lE2, lE3]; rfl
    repeat (go_big_quiet_step (fail))
    refine wpQuiet_nil ?_; go_wp2
    go_end0
    exact ⟨rfl, HTO.out⟩
end
end Go.Proofs.YtnicenfdlfffpaaGreatDoor
