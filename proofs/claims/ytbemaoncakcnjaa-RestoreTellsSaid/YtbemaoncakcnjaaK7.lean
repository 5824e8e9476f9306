/- Texts of mine, joined: Ls, Law09c, Spec10, Fit1, Fit3, Spec11. -/
import Derived.Great.BuildSlice
import Derived.Test.YtbemaoncakcnjaaK6

/- A row of lists of numbers in memory, beside an arena and a row of bools: how it stands in the walk of ListFirst. -/
namespace Go.Proofs.Ytbemaoncakcnjaa
open Go.RowKit

/-- Numbers in a row that is none of the blocks of S. -/
def Rw (S : Nat → Prop) (w : World) (A : Option Addr) (l : List Nat) : Prop := 0 < l.length → ∃ b o, A = some ⟨b, o, none⟩ ∧ b < w.heap.size ∧ ¬ S b ∧ ∀ (j x : Nat), l[j]? = some x → w.cell? ⟨b, o + j, none⟩ = some (.int .i64 (x : Int))
section
variable {S S' : Nat → Prop} {w w' : World} {gl : Nat} {L : Nat → List Nat} {cs : List Value} {A : Option Addr} {l : List Nat}
theorem Rw.keep (h : Rw S w A l) (hz : w.heap.size ≤ w'.heap.size) (hk : ∀ k, k < w.heap.size → ¬ S k → w'.heap[k]? = w.heap[k]? ∧ ¬ S' k) : Rw S' w' A l := fun h0 => by
  obtain ⟨b, o, e, hb, hn, hc⟩ := h h0
  obtain ⟨k1, k2⟩ := hk b hb hn
  exact ⟨b, o, e, Nat.lt_of_lt_of_le hb hz, k2, fun j x hx => (World.cell?_of_block (w := w) (a := ⟨b, o + j, none⟩) k1).trans (hc j x hx)⟩
end

section
variable {wB W W' : World} {g c gl gi : Nat} {A : Option Addr} {bs : List UInt8} {L : Nat → List Nat} {cs : List Value} {inn : List Bool}
end
end Go.Proofs.Ytbemaoncakcnjaa

/- The walk of ListFirst. -/
namespace Go.Proofs.Ytbemaoncakcnjaa
open Go.RowKit

theorem sl_infb : (Try.prog.info? 84).map (fun i => (i.zero, i.size, i.bytes)) = some (some (.slice none 0 0), 1, 24) := by kernel_rfl
theorem made_one (z : Value) (n : Nat) : madeCells #[z] n = (List.replicate n z).toArray := by
  apply Array.ext
  · simp [madeCells]
  · intro i h1 h2
    simp [madeCells, Nat.mod_one]
theorem mk_sls (W : World) : (Instr.makeSlice 70 (.int .i64 22) (.int .i64 22)).run Try.prog W = .ok (.slice (some ⟨W.heap.size, 0, none⟩) 22 22) (W.alloc (.cells (List.replicate 22 (Value.slice none 0 0)).toArray 84)) := by
  have h := run_make_row' (P := Try.prog) 70 84 (.slice none 0 0) 24 Try.underlying70 sl_infb rfl .i64 .i64 22 (by omega) (by omega) W
  rw [made_one] at h
  exact h

theorem run_one_int (w : World) (x : Int) : (Instr.buildSlice 84 1 #[(0, .int .i64 x)]).run Try.prog w = .ok (.slice (some ⟨w.heap.size, 0, none⟩) 1 1) (w.alloc (.cells #[.int .i64 x] 3)) := by
  obtain ⟨i0, hi, hz0, hz1, hz2⟩ := info_parts int_inf
  refine run_buildSlice w 84 3 1 _ _ i0 _ Try.underlying84 hi hz0 (by omega) (by omega) ?_
  rw [hz1]
  have e : Array.range (1 * 1) = #[0] := by decide
  rw [e]
  simp [Instr.fill, Value.cells]
theorem iv_one (l : List Nat) : ∀ u ∈ l.map iV, u.oneCell' = true := by
  intro u hu
  obtain ⟨x, _, rfl⟩ := List.mem_map.1 hu
  rfl
theorem rw_cells {S : Nat → Prop} {w : World} {ad : Addr} {l : List Nat} (h : Rw S w (some ad) l) : ∀ j u, (l.map iV)[j]? = some u → w.cell? (ad.add j) = some u := by
  intro j u hu
  rw [List.getElem?_map, Option.map_eq_some_iff] at hu
  obtain ⟨x, hx, rfl⟩ := hu
  have hj : j < l.length := by
    rcases Nat.lt_or_ge j l.length with h1 | h1
    · exact h1
    · rw [List.getElem?_eq_none h1] at hx; cases hx
  obtain ⟨b, off, e, _, _, hc⟩ := h (by omega)
  cases e
  have e : (⟨b, off, none⟩ : Addr).add j = ⟨b, off + j, none⟩ := by unfold Addr.add; split <;> simp_all
  rw [e]
  exact hc j x hx
theorem own_one (w : World) (x : Nat) : (w.alloc (.cells #[.int .i64 (x : Int)] 3)).ownsRow w.heap.size 3 1 (.slice (some ⟨w.heap.size, 0, none⟩) 1 1) 1 ([x].map iV) :=
  ⟨rfl, .inr ⟨w.heap.size, 1, _, rfl, Nat.le_refl _, heap_alloc_new w _, Nat.le_refl _, by unfold maxLen; omega, rfl, rfl⟩⟩
theorem nats_len (l : List Nat) : (nats l).length = l.length := by simp [nats]
/-- A row of this call's own is none of what was there. -/
theorem rw_own {S : Nat → Prop} {w : World} {base n : Nat} {A : Option Addr} {c : Nat} {l : List Nat} (h : w.ownsRow base 3 1 (.slice A n c) n (l.map iV)) (hn : n = l.length) (hS : ∀ k, base ≤ k → ¬ S k) : Rw S w A l ∧ (A = none → c = 0) := by
  refine ⟨fun h0 => ?_, fun e => ?_⟩
  · rcases h.2 with ⟨_, h0'⟩ | ⟨g, _, _, h', _⟩
    · omega
    · injection h' with e
      subst e
      refine ⟨g, 0, rfl, (h.lt g rfl).2, hS g (h.lt g rfl).1, fun j x hx => ?_⟩
      have hj : j < l.length := by
        rcases Nat.lt_or_ge j l.length with h | h
        · exact h
        · rw [List.getElem?_eq_none h] at hx; cases hx
      rw [Nat.zero_add, h.cellAt j (by omega), List.getElem?_map, hx]
      rfl
  · subst e
    rcases h.2 with ⟨h', _⟩ | ⟨_, _, _, h', _⟩
    · injection h' with _ _ e
    · injection h' with e; cases e
end Go.Proofs.Ytbemaoncakcnjaa


/- What the program's fits (layer 10) are to tell: the words in which the laws ask for it. -/
namespace Go.Proofs.Ytbemaoncakcnjaa
open Go.RowKit

def RebuildC : Prop := ∀ (w : World) (g base cap c : Nat) (A : Option Addr) (bs : List UInt8) (y : Option (List UInt8)), Ar w 74 g base cap A c bs → base ≤ 4611686018427387904 → bs.length ≤ 16384 → rebuildB bs = y →
  Calls Try.prog 26 #[.pointer (some ⟨g, 0, none⟩)] w fun e w' => Done 3 74 g base cap A y w e w'
end Go.Proofs.Ytbemaoncakcnjaa

/- The program's fits (layer 10): the lists cleared, a block put behind others, the first of a list that has so many bytes. -/
namespace Go.Proofs.Ytbemaoncakcnjaa
open Go.RowKit

section
variable {w : World} {g base cap c : Nat} {A : Option Addr} {bs : List UInt8}
set_option maxHeartbeats 400000 in
theorem lclear_yes (h : Ar w 74 g base cap A c bs) (hb : base ≤ 4611686018427387904) (hl : bs.length ≤ 16384) (h184 : 184 ≤ bs.length) (z : List UInt8) (hz : List.replicate 184 (0 : UInt8) ++ bs.drop 184 = z) :
    Calls Try.prog 49 #[.pointer (some ⟨g, 0, none⟩)] w fun e w' => e = .returned .nilIface ∧ Became 74 g base cap A z w w' := by
  have HA := Lib.hid (base_any h)
  have hf := fill_ok h (by omega) base 184 0 0 (by omega) (by omega) (by omega) (by omega)
  have e : lay bs 0 (List.replicate 184 (0 : UInt8)) = z := by
    have e1 : (List.replicate 184 (0 : UInt8)).length = 184 := List.length_replicate
    rw [← hz]
    unfold lay
    rw [e1, Nat.zero_add, List.take_zero, List.nil_append]
  rw [e] at hf
  have HF : Hid (Calls Try.prog 72 #[.pointer (some ⟨g, 0, none⟩), .int .u64 (base : Int), .int .u64 184, .int .u8 0] w fun e w' => e = .returned .nilIface ∧ Became 74 g base cap A z w w') := hf
  clear hf e hz h
  go_enter Try.func49, Try.ntmps49
  go_wp2_with fail
  with_reducible refine HA.out.mono ?_
  rintro e w1 ⟨rfl, rfl⟩
  go_wp2_with fail
  refine HF.out.mono ?_
  rintro e w1 ⟨rfl, hbe⟩
  have HB := Lib.hid hbe
  clear hbe
  go_wp2
  go_ret
  exact ⟨rfl, HB.out⟩
end

section
variable {w w1 w2 : World} {g base cap : Nat} {A : Option Addr} {out : List UInt8}
theorem became_below (h : Became 74 g base cap A out w w1) (hb : Below w1.heap.size w1 w2) : Became 74 g base cap A out w w2 := by
  obtain ⟨A', c', a, tc, k⟩ := h
  exact Became.trans a tc k (became_of a hb)
theorem putB_len (h : 184 ≤ out.length) (o : Int) : ((putB out o).getD out).length = out.length := by
  cases hp : putB out o with
  | none => rfl
  | some y => exact (putB_high h hp).1
/-- A block that is put behind others; with an error nothing changes. -/
theorem became_put (h : Became 74 g base cap A out w w1) (hb : base ≤ 4611686018427387904) (hl : out.length ≤ 16384) (o : Int) (ho : -9223372036854775808 ≤ o ∧ o ≤ 9223372036854775807) :
    Calls Try.prog 50 #[.pointer (some ⟨g, 0, none⟩), .int .i64 o] w1 fun e w2 => (∃ v, e = .returned v) ∧ Became 74 g base cap A ((putB out o).getD out) w w2 := by
  obtain ⟨A', c', a, tc, k⟩ := h
  refine (putC w1 g base cap c' A' out o _ a hb hl ho rfl).mono ?_
  intro e w2 hd
  unfold Done at hd
  cases hp : putB out o with
  | none =>
    rw [hp] at hd
    exact ⟨⟨_, hd.1⟩, Became.trans a tc k (became_of a hd.2)⟩
  | some y =>
    rw [hp] at hd
    exact ⟨⟨_, hd.1⟩, Became.trans a tc k hd.2⟩
end

section
variable {w : World} {g base cap c : Nat} {A : Option Addr} {bs : List UInt8}
end
end Go.Proofs.Ytbemaoncakcnjaa

/- The contract of the program's Rebuild. -/
namespace Go.Proofs.Ytbemaoncakcnjaa
open Go.RowKit

theorem rebF_len {out : List UInt8} (h : 184 ≤ out.length) (x : Bk) : (rebF out x).length = out.length := by
  unfold rebF
  split
  · rfl
  · exact putB_len h _
theorem rebs_len : ∀ (l : List Bk) {out : List UInt8}, 184 ≤ out.length → (l.foldl rebF out).length = out.length
  | [], _, _ => rfl
  | x :: r, out, h => by
    rw [List.foldl_cons, rebs_len r (by rw [rebF_len h]; exact h), rebF_len h]

theorem tch_cell {S : Nat → Prop} {w w' : World} (h : Tch S w w') {b j : Nat} {v : Value} (hc : w.cell? ⟨b, j, none⟩ = some v) (hb : b < w.heap.size) (hn : ¬ S b) : w'.cell? ⟨b, j, none⟩ = some v :=
  (World.cell?_of_block (w := w) (a := ⟨b, j, none⟩) (h.block b hb hn)).trans hc

set_option maxRecDepth 100000 in
set_option maxHeartbeats 2000000 in
theorem rebuildC : RebuildC := by
  intro w g base cap c A bs y h hb hl hy
  cases hw : walkB bs with
  | none =>
    obtain rfl : none = y := by rw [← hy]; unfold rebuildB; rw [hw]; rfl
    have hW := walkC w g base cap c A bs _ h hb hl hw
    dsimp only [BlksTold, Option.isSome, Option.getD, errV] at hW
    dsimp only [Done, errV]
    have HW := Lib.hid hW
    clear hW hw hy h hb
    go_enter Try.func26, Try.ntmps26
    go_wp2_with fail
    with_reducible refine HW.out.mono ?_
    rintro e w2 ⟨A', c', rfl, _, hb2⟩
    have HB2 := Lib.hid hb2
    clear hb2
    go_wp2
    go_ret
    exact ⟨rfl, HB2.out⟩
  | some l =>
    obtain ⟨h184, hmem⟩ := walkB_mem hw
    obtain ⟨z, hz⟩ : ∃ z, List.replicate 184 (0 : UInt8) ++ bs.drop 184 = z := ⟨_, rfl⟩
    have hzl : z.length = bs.length := by rw [← hz, List.length_append, List.length_replicate, List.length_drop]; omega
    obtain rfl : some (l.foldl rebF z) = y := by rw [← hy, ← hz]; unfold rebuildB; rw [hw]; rfl
    have hW := walkC w g base cap c A bs _ h hb hl hw
    dsimp only [BlksTold, Option.isSome, Option.getD, errV] at hW
    dsimp only [Done, errV]
    have HCL := Lib.hid (fun (W : World) (hB : Below w.heap.size w W) => lclear_yes (h.below hB) hb hl h184 z hz)
    have HW := Lib.hid hW
    have HMEM := Lib.hid hmem
    have HAR := Lib.hid h
    have HBASE := Lib.hid hb
    have HZL := Lib.hid hzl
    obtain ⟨B0, hB0⟩ : ∃ B0, w.heap.size = B0 := ⟨_, rfl⟩
    have HB0 := Lib.hid hB0
    clear hW hw hy h hb hz hmem hzl hB0
    go_enter Try.func26, Try.ntmps26
    go_wp2_with fail
    with_reducible refine HW.out.mono ?_
    rintro e w2 ⟨A2, c2, rfl, ho2, hb2⟩
    have hcl : l.length ≤ c2 ∧ c2 ≤ 9223372036854775807 := by
      rcases ho2.2 with ⟨h', h0⟩ | ⟨_, _, _, h', _, _, h1, h2, _⟩
      · injection h' with _ _ e; rw [h0, e]; omega
      · injection h' with _ _ e; unfold maxLen at h2; omega
    have HO2 := Lib.hid ho2
    have HB2 := Lib.hid hb2
    have HAR2 := Lib.hid (HAR.out.below hb2)
    have HCL2 := Lib.hid (HCL.out w2 hb2)
    clear hb2 ho2 HW HCL
    go_wp2_with fail
    refine HCL2.out.mono ?_
    rintro e w3 ⟨rfl, hbe⟩
    have HBE := Lib.hid hbe
    clear hbe HCL2
    go_wp2
    go_loopw [19] (fun t wr => ∃ j : Nat, t = .int .i64 (j : Int) ∧ j ≤ l.length ∧ Became 74 g base cap A ((l.take j).foldl rebF z) w2 wr) (fun t _ => l.length - (intOf t).toNat)
    case atStart => exact ⟨0, rfl, Nat.zero_le _, HBE.out⟩
    case round =>
      obtain ⟨j, rfl, hj, hbe⟩ := hrel
      by_cases hlt : j < l.length
      · obtain ⟨x, hx⟩ : ∃ x, l[j]? = some x := ⟨l[j], List.getElem?_eq_getElem hlt⟩
        obtain ⟨b, o, rfl, hbb, hc⟩ := own_bks HO2.out rfl (by omega)
        have hbB : B0 ≤ b := by have := (HO2.out.lt b rfl).1; have := HB0.out; omega
        have hnf : ¬ foot g A b := fun hf => by
          have h1 : b < w.heap.size := HAR.out.foot_lt hf
          have := HB0.out
          omega
        obtain ⟨p0, p1, p2⟩ := hc j x hx
        have hg := HMEM.out x (List.mem_of_getElem? hx)
        obtain ⟨_, _, _, q3, _⟩ := getB_some hg
        obtain ⟨out, hout⟩ : ∃ out, (l.take j).foldl rebF z = out := ⟨_, rfl⟩
        have hol : out.length = bs.length := by rw [← hout, rebs_len _ (by have := HZL.out; omega)]; exact HZL.out
        have hnext : (l.take (j + 1)).foldl rebF z = rebF out x := by
          rw [List.take_add_one, hx, List.foldl_append, hout]; rfl
        rw [hout] at hbe
        have htc : Tch (foot g A) w2 wr := by obtain ⟨_, _, _, t, _⟩ := hbe; exact t
        have r0 := tch_cell htc p0 hbb hnf
        have r1 := tch_cell htc p1 hbb hnf
        have r2 := tch_cell htc p2 hbb hnf
        obtain ⟨xo, xs, xu⟩ := x
        dsimp only at p0 p1 p2 q3 r0 r1 r2
        have hq := (isSz_iff _).1 (getB_some hg).2.2.2.2.1
        dsimp only at hq
        obtain ⟨w4, hw4⟩ : ∃ w4, wr.alloc (.cells #[.int .i64 (xo : Int), .int .i64 (xs : Int), .bool xu] 65) = w4 := ⟨_, rfl⟩
        have hb4 : Below wr.heap.size wr w4 := by rw [← hw4]; exact (Below.refl _ _).alloc (Nat.le_refl _) _
        have n4 : w4.heap[wr.heap.size]? = some (.cells #[.int .i64 (xo : Int), .int .i64 (xs : Int), .bool xu] 65 (0, 0)) := by rw [← hw4]; exact heap_alloc_new wr _
        obtain ⟨⟨d0, d1, d2⟩, _⟩ := blk_cells n4
        have HBE4 := Lib.hid (became_below hbe hb4)
        have HW4 := Lib.hid hw4
        have HP := Lib.hid (became_put HBE4.out HBASE.out (by rw [hol]; exact hl) (xo : Int) (by omega))
        cases xu with
        | true =>
          have HN : Hid ((l.take (j + 1)).foldl rebF z = out) := hnext
          clear hnext hx hc hbe hout htc hg p0 p1 p2 hb4 n4 HP hw4 HAR HAR2
          go_wp2_with (first | (rw [HW4.out]) | fail)
          go_roundw
          case rel => exact ⟨j + 1, by go_num, by omega, by rw [HN.out]; exact HBE4.out⟩
          case measure => simp only [intOf]; omega
        | false =>
          have HN : Hid ((l.take (j + 1)).foldl rebF z = (putB out (xo : Int)).getD out) := hnext
          clear hnext hx hc hbe hout htc hg p0 p1 p2 hb4 n4 hw4 HAR HAR2
          go_wp2_with (first | (rw [HW4.out]) | fail)
          refine HP.out.mono ?_
          rintro e w5 ⟨⟨v, rfl⟩, hbe5⟩
          have HBE5 := Lib.hid hbe5
          clear hbe5 HP
          go_wp2
          go_roundw
          case rel => exact ⟨j + 1, by go_num, by omega, by rw [HN.out]; exact HBE5.out⟩
          case measure => simp only [intOf]; omega
      · obtain hjl : j = l.length := by omega
        rw [hjl, List.take_length] at hbe
        have HF := Lib.hid (hbe.after HB2.out)
        clear hbe hjl
        go_wp2
        go_ret
        exact ⟨rfl, HF.out⟩
end Go.Proofs.Ytbemaoncakcnjaa

/- What the program's check (layer 11) is to tell. -/
namespace Go.Proofs.Ytbemaoncakcnjaa
open Go.RowKit

def CheckC : Prop := ∀ (w : World) (g base cap c : Nat) (A : Option Addr) (bs : List UInt8) (x : Bool), Ar w 74 g base cap A c bs → base ≤ 4611686018427387904 → bs.length ≤ 16384 → checkB bs = x →
  Calls Try.prog 39 #[.pointer (some ⟨g, 0, none⟩)] w fun e w' => e = .returned (errV x 3) ∧ Below w.heap.size w w'
end Go.Proofs.Ytbemaoncakcnjaa
