/- Texts of mine, joined: Ref10a, Ref10b, Law09b. -/
import Derived.Test.YtcjjpffkmajehaaM4

/- The contracts of the document's own fits: Find. -/
namespace Go.Proofs.Ytcjjpffkmajehaa
open Go.RowKit

theorem find_take {p : Nat → Bool} {l : List Nat} {j o : Nat} (h : ∀ q ∈ l.take j, p q = false) (hj : l[j]? = some o) (ho : p o = true) : l.find? p = some o := by
  have hlt : j < l.length := by
    rcases Nat.lt_or_ge j l.length with h | h
    · exact h
    · rw [List.getElem?_eq_none h] at hj; cases hj
  rw [List.getElem?_eq_getElem hlt] at hj
  injection hj with hj
  have e : l = l.take j ++ (o :: l.drop (j + 1)) := by rw [← hj, ← List.drop_eq_getElem_cons hlt, List.take_append_drop]
  rw [e, List.find?_append]
  have hn : (l.take j).find? p = none := List.find?_eq_none.2 fun q hq => by rw [h q hq]; simp
  rw [hn, Option.none_or, List.find?_cons_of_pos ho]
theorem find_none' {p : Nat → Bool} {l : List Nat} (h : ∀ q ∈ l, p q = false) : l.find? p = none := List.find?_eq_none.2 fun q hq => by rw [h q hq]; simp

theorem allF_member (bs : List UInt8) (c : Nat) : ∀ (k last p : Nat) (l : List Nat), allF bs c k last p = some l → ∀ o ∈ l, memberB bs o (c : Int) = true
  | 0, last, p, l, h, o, ho => by
    unfold allF at h
    split at h
    · injection h with h; subst h; cases ho
    · cases h
  | k + 1, last, p, l, h, o, ho => by
    unfold allF at h
    by_cases hp : p = 0
    · rw [if_pos hp] at h; injection h with h; subst h; cases ho
    · rw [if_neg hp] at h
      dsimp only at h
      by_cases hm : memberB bs p (c : Int) = true ∧ wordN bs (p + 16) = last
      · rw [if_pos hm] at h
        cases hr : allF bs c k p (wordN bs (p + 8)) with
        | none => rw [hr] at h; cases h
        | some l' =>
          rw [hr] at h
          injection h with h
          subst h
          rcases List.mem_cons.1 ho with e | ho
          · rw [e]; exact hm.1
          · exact allF_member bs c k p _ l' hr o ho
      · rw [if_neg hm] at h; cases h
theorem allB_member {bs : List UInt8} {c : Nat} {l : List Nat} (h : allB bs c = some l) : ∀ o ∈ l, memberB bs o (c : Int) = true := by
  unfold allB at h
  split at h
  · cases h
  · split at h
    · cases h
    · exact allF_member bs c _ _ _ l h
theorem memberB_get {bs : List UInt8} {p : Nat} {c : Int} (h : memberB bs p c = true) : p ≤ 20000 ∧ ∃ x, getB bs (p : Int) = some x := by
  unfold memberB at h
  cases hg : getB bs (p : Int) with
  | none => rw [hg] at h; simp at h
  | some x => rw [hg] at h; simp at h; exact ⟨h.1, x, rfl⟩
section
variable (w : World)
end
end Go.Proofs.Ytcjjpffkmajehaa

/- The contracts of the document's own fits: Rebuild. -/
namespace Go.Proofs.Ytcjjpffkmajehaa
open Go.RowKit

theorem walkF_mem (bs : List UInt8) : ∀ (k o : Nat) (l : List Bk), walkF bs k o = some l → ∀ x ∈ l, getB bs (x.off : Int) = some x
  | 0, _, _, h, _, _ => by cases h
  | k + 1, o, l, h, x, hx => by
    unfold walkF at h
    by_cases hlt : o < bs.length
    · rw [if_pos hlt] at h
      cases hg : getB bs (o : Int) with
      | none => rw [hg] at h; cases h
      | some y =>
        rw [hg] at h
        dsimp only at h
        cases hr : walkF bs k (o + y.size) with
        | none => rw [hr] at h; cases h
        | some r =>
          rw [hr] at h
          injection h with h
          subst h
          rcases List.mem_cons.1 hx with e | hx
          · subst e
            have := (getB_some hg).1
            rw [← this, hg]
          · exact walkF_mem bs k _ r hr x hx
    · rw [if_neg hlt] at h
      injection h with h
      subst h
      cases hx
theorem walkB_mem {bs : List UInt8} {l : List Bk} (h : walkB bs = some l) : 184 ≤ bs.length ∧ ∀ x ∈ l, getB bs (x.off : Int) = some x := by
  unfold walkB at h
  split at h
  · cases h
  · exact ⟨by omega, walkF_mem bs _ _ l h⟩
theorem own_bks {w : World} {base n : Nat} {t : TypeId} {A : Option Addr} {c : Nat} {l : List Bk} (h : w.ownsRow base t 3 (.slice A n c) n (flatK l)) (hn : n = l.length) : BkRd w w.heap.size A l := fun h0 => by
  rcases h.2 with ⟨_, h0'⟩ | ⟨g, _, _, h', _⟩
  · omega
  · injection h' with e
    subst e
    refine ⟨g, 0, rfl, (h.lt g rfl).2, fun j x hx => ?_⟩
    obtain ⟨q0, q1, q2⟩ := flatK_get l j x hx
    have hj : j < l.length := by
      rcases Nat.lt_or_ge j l.length with h | h
      · exact h
      · rw [List.getElem?_eq_none h] at hx; cases hx
    refine ⟨?_, ?_, ?_⟩
    · rw [Nat.zero_add, h.cellAt (j * 3) (by omega), q0]
    · rw [Nat.zero_add, h.cellAt (j * 3 + 1) (by omega), q1]
    · rw [Nat.zero_add, h.cellAt (j * 3 + 2) (by omega), q2]

/-- make([]byte, n): a block of n bytes that are 0. -/
theorem run_mk0 (n : Nat) (hn : n ≤ 1000000) (z : List UInt8) (hz : List.replicate n (0 : UInt8) = z) (W : World) : (Instr.makeSlice 25 (.int .i64 (n : Int)) (.int .i64 (n : Int))).run Try.prog W = .ok (.slice (some ⟨W.heap.size, 0, none⟩) n n) (W.alloc (.cells (rowB z) 5)) := by
  have := run_make_row' (P := Try.prog) 25 5 (.int .u8 0) 1 Try.underlying25 u8_infb rfl .i64 .i64 n (by omega) (by omega) W
  rw [rowB_zeros, hz] at this
  exact this
theorem mk_run {P : Program} {o : Oper} {a : Act} {w w1 : World} {v L C : Value} {t : TypeId} {l c : Operand} (ho : o.op = .makeSlice t l c) (hl : a.eval l = L) (hc : a.eval c = C)
    (hr : (Instr.makeSlice t L C).run P w = .ok v w1) : (execOp a.eval o).run P w = .ok (.value v) w1 := by
  unfold execOp
  simp only [ho]
  rw [hl, hc, Sem.run_bind, hr]
  rfl

/-- What a slice is from a place on. -/
theorem rd_from {w : World} {B b o ca k : Nat} {bs : List UInt8} (hb : b < B) (hc : ∀ (j : Nat) (u : UInt8), bs[j]? = some u → w.cell? ⟨b, o + j, none⟩ = some (.int .u8 (u.toNat : Int))) (hlc : bs.length ≤ ca) :
    Rd w B (if ca = k then some ⟨b, o, none⟩ else some ⟨b, o + k, none⟩) (bs.length - k) (bs.drop k) := by
  refine ⟨by simp, fun h => ?_⟩
  rw [if_neg (by omega)]
  refine ⟨b, o + k, rfl, hb, fun j u hu => ?_⟩
  rw [List.getElem?_drop] at hu
  have := hc (k + j) u hu
  rw [Nat.add_assoc]
  exact this

section
variable (w : World)
set_option maxRecDepth 100000 in
set_option maxHeartbeats 2000000 in
theorem rrebuild_any (S : Nat → Prop) (hS : ∀ k, w.heap.size ≤ k → S k) (A : Option Addr) (ca : Nat) (bs : List UInt8) (n : Nat) (hn : bs.length = n) (hr : Rd w w.heap.size A n bs) (hlc : n ≤ ca) (hA0 : KO S A ca) (hl : n ≤ 100000) (x : Option (List UInt8)) (hx : rebuildB bs = x) :
    Calls Try.prog 13 #[.slice A n ca] w fun e w' => SlB S n (x.getD bs) x.isSome w e w' := by
  subst hn
  cases hw : walkB bs with
  | none =>
    obtain rfl : none = x := by rw [← hx]; unfold rebuildB; rw [hw]; rfl
    have hW := rwalkB_any w A ca w.heap.size bs hr (Nat.le_refl _) hlc hl none hw
    dsimp only [BksTold, Option.isSome, Option.getD] at hW
    have HW := Lib.hid hW
    have HR := Lib.hid hr
    clear hW hr hw hx
    go_enter Try.func13, Try.ntmps13
    go_wp2_with fail
    with_reducible refine HW.out.mono ?_
    rintro e w1 ⟨A', c', rfl, _, hb⟩
    go_wp2
    go_ret2
    exact ⟨A, ca, rfl, (HR.out.below hb).more hb.size, hlc, hA0, hb⟩
  | some l =>
    obtain rfl : some (l.foldl rebF (List.replicate 184 0 ++ bs.drop 184)) = x := by rw [← hx]; unfold rebuildB; rw [hw]; rfl
    obtain ⟨h184, hmem⟩ := walkB_mem hw
    have hW := rwalkB_any w A ca w.heap.size bs hr (Nat.le_refl _) hlc hl _ hw
    dsimp only [BksTold, Option.isSome, Option.getD] at hW ⊢
    have HW := Lib.hid hW
    have HR := Lib.hid hr
    have HMEM := Lib.hid hmem
    obtain ⟨ba, oa, rfl, hba, hca⟩ := hr.2 (by omega)
    obtain ⟨z, hz⟩ : ∃ z, List.replicate 184 (0 : UInt8) = z := ⟨_, rfl⟩
    have hzl : z.length = 184 := by rw [← hz]; simp
    have HMK : ∀ W : World, Hid ((Instr.makeSlice 25 (.int .i64 184) (.int .i64 184)).run Try.prog W = .ok (.slice (some ⟨W.heap.size, 0, none⟩) 184 184) (W.alloc (.cells (rowB z) 5))) := run_mk0 184 (by omega) z hz
    rw [hz]
    have HZL := Lib.hid hzl
    have HCA := Lib.hid hca
    obtain ⟨B0, hB0⟩ : ∃ B0, w.heap.size = B0 := ⟨_, rfl⟩
    have HB0 := Lib.hid hB0
    clear hW hr hw hx hmem hz hzl hca hB0
    go_enter Try.func13, Try.ntmps13
    go_wp2_with fail
    with_reducible refine HW.out.mono ?_
    rintro e w1 ⟨A4, c4, rfl, ho4, hb1⟩
    have HO4 := Lib.hid ho4
    have HB1 := Lib.hid hb1
    have hcl : l.length ≤ c4 ∧ c4 ≤ 9223372036854775807 := by
      rcases ho4.2 with ⟨h', h0⟩ | ⟨_, _, _, h', _, _, h1, h2, _⟩
      · injection h' with _ _ e; rw [h0, e]; omega
      · injection h' with _ _ e; unfold maxLen at h2; omega
    clear ho4 hb1 HW
    go_wp2_with fail
    refine wp_region_tail w1.heap.size [([1, 2], 0)] [] [3, 4] (by kernel_rfl) (by kernel_rfl) (by kernel_rfl) (fun _ _ _ _ _ h => h) ?_
    obtain ⟨w2, hw2⟩ : ∃ w2, w1.drew = w2 := ⟨_, rfl⟩
    have hz2 : w1.heap.size = w2.heap.size := by rw [← hw2]; rfl
    have HB2 : Hid (Below B0 w w2) := by rw [← hw2, ← HB0.out]; exact HB1.out.drew
    have HO2 : Hid (w2.ownsRow B0 44 3 (.slice A4 l.length c4) l.length (flatK l)) := by rw [← hw2, ← HB0.out]; exact HO4.out
    rw [hw2, hz2]
    clear hw2 hz2 HB1 HO4
    refine tail_cons (l := ?seg1) ?hseg1 ?_
    case hseg1 => simp only [pick, List.getElem?_toArray, List.getElem?_cons_succ, List.getElem?_cons_zero]; rfl
    repeat (go_big_quiet_step (fail))
    refine wpQuiet_nil ?_
    obtain ⟨A18, hA18⟩ : ∃ A18 : Option Addr, (if ca = 184 then some (⟨ba, oa, none⟩ : Addr) else some ⟨ba, oa + 184, none⟩) = A18 := ⟨_, rfl⟩
    have HA18 : Hid (A18 = none → ca - 184 = 0) := fun h => by rw [← hA18] at h; split at h <;> cases h
    have HR18 : Hid (Rd w2 B0 A18 (bs.length - 184) (bs.drop 184)) := by
      rw [← hA18]
      exact rd_from (by rw [← HB0.out]; exact hba) (fun j u hu => (HB2.out.cell (p := ⟨ba, _, none⟩) (by rw [← HB0.out]; exact hba)).trans (HCA.out j u hu)) hlc
    rw [hA18]
    clear hA18
    obtain ⟨w3, hw3⟩ : ∃ w3, w2.alloc (.cells (rowB z) 5) = w3 := ⟨_, rfl⟩
    have hb3 : Below w2.heap.size w2 w3 := by rw [← hw3]; exact (Below.refl _ _).alloc (Nat.le_refl _) _
    have hB2 : B0 ≤ w2.heap.size := by have := HB2.out.size; have := HB0.out; omega
    have hm3 := (HMK w2).out
    have own3 : w3.ownsRow w2.heap.size 5 1 (.slice (some ⟨w2.heap.size, 0, none⟩) 184 184) 184 (z.map bv) := by
      rw [← hw3]
      exact World.ownsRow_lit w2 (rowB z) 184 (Nat.le_refl _) (by unfold maxLen; omega) (by simp [rowB, HZL.out])
    rw [hw3] at hm3
    have HB3 := Lib.hid (HB2.out.trans (hb3.mono hB2))
    have HR3 := Lib.hid ((HR18.out.below (hb3.mono hB2)))
    have HO3 := Lib.hid (own_below' HO2.out hb3)
    have HO2K := HO2
    have hsz3 := hb3.size
    refine tail_val2 (w1 := w3) (v := .slice (some ⟨w2.heap.size, 0, none⟩) 184 184) (some 16) rfl rfl rfl ?rv1 hb3 ?_
    case rv1 => exact mk_run rfl rfl rfl hm3
    refine ⟨w2.heap.size, Nat.le_refl _, ?_⟩
    refine tail_last (l := ?la) (t := ?tl) ?hla ?htl ?_
    case hla => rfl
    case htl => simp only [pick, List.getElem?_toArray, List.getElem?_cons_succ, List.getElem?_cons_zero]; rfl
    refine wpQuiet_nil ?_
    simp only [Act.put, List.setIfInBounds_toArray, List.set_cons_zero, List.set_cons_succ]
    have OWN3 := Lib.hid own3
    have HB23 := Lib.hid hb3
    have hbase : w2.heap.size ≤ w3.heap.size := hsz3
    clear hm3 hw3 hb3 own3 HMK HCA HO2 HR18 HB2
    go_wp2_with (first
      | (at_builtin; go_must (refine append_bytes rfl (.tmp 16) (.tmp 18) 25 5 rfl Try.underlying25 u8_infb w2.heap.size (.slice (some ⟨w2.heap.size, 0, none⟩) 184 184) 184 z rfl OWN3.out B0 A18 (bs.length - 184) (ca - 184) (bs.drop 184) rfl HR3.out HA18.out (by omega) hbase ?_); intro x4 w4 own4 hb4 gr4; have OWN4 := Lib.hid own4; have HB4 := Lib.hid hb4; clear own4 hb4 gr4)
      | fail)
    have e184 : 184 + (bs.length - 184) = bs.length := by omega
    have own4 := OWN4.out
    rw [e184] at own4
    obtain ⟨g6, c6, rfl, hc6, hr6⟩ := own_rd own4 (by omega)
    have HG6 : Hid (B0 ≤ g6) := Nat.le_trans hB2 (OWN4.out.lt g6 rfl).1
    have HR6 := Lib.hid hr6
    have HB0' : Hid (Below B0 w w4) := HB3.out.trans (HB4.out.mono hB2)
    have HO4 : Hid (w4.ownsRow B0 44 3 (.slice A4 l.length c4) l.length (flatK l)) := by
      have h24 : Below w2.heap.size w2 w4 := HB23.out.trans HB4.out
      exact own_below' HO2K.out h24
    clear own4 OWN4 OWN3 HB3 HB4 HR3 HO3 hr6
    go_loopw [6, 7] (fun q t wr => ∃ (j : Nat) (A6 : Option Addr) (c6 : Nat) (out : List UInt8), q = .slice A6 bs.length c6 ∧ t = .int .i64 (j : Int) ∧ j ≤ l.length ∧ out = (l.take j).foldl rebF (z ++ bs.drop 184) ∧ Rd wr wr.heap.size A6 bs.length out ∧ bs.length ≤ c6 ∧ KO S A6 c6 ∧ wr.ownsRow B0 44 3 (.slice A4 l.length c4) l.length (flatK l) ∧ Below B0 w wr) (fun _ t _ => l.length - (intOf t).toNat)
    case atStart => exact ⟨0, _, c6, _, rfl, rfl, Nat.zero_le _, rfl, HR6.out, hc6, ⟨(fun h => by cases h), fun a e => by cases e; exact hS _ (show w.heap.size ≤ g6 by have := HG6.out; have := HB0.out; omega)⟩, HO4.out, HB0'.out⟩
    case round =>
      obtain ⟨j, A6, c6, out, rfl, rfl, hj, hout, hr6, hc6, hA6, ho4, hb⟩ := hrel
      have hBw : B0 ≤ wr.heap.size := by have := hb.size; have := HB0.out; omega
      by_cases hlt : j < l.length
      · obtain ⟨x, hx⟩ : ∃ x, l[j]? = some x := ⟨l[j], List.getElem?_eq_getElem hlt⟩
        obtain ⟨b, o, rfl, hbb, hc⟩ := own_bks ho4 rfl (by omega)
        obtain ⟨p0, p1, p2⟩ := hc j x hx
        have hg := HMEM.out x (List.mem_of_getElem? hx)
        obtain ⟨_, _, _, q3, _⟩ := getB_some hg
        have hnext : (l.take (j + 1)).foldl rebF (z ++ bs.drop 184) = rebF out x := by
          rw [List.take_add_one, hx, List.foldl_append, ← hout]; rfl
        obtain ⟨xo, xs, xu⟩ := x
        dsimp only at p0 p1 p2 q3
        have HN := Lib.hid hnext
        have HO := Lib.hid ho4
        have HRB := Lib.hid hb
        have HR6' := Lib.hid hr6
        cases xu with
        | true =>
          have HN' : Hid ((l.take (j + 1)).foldl rebF (z ++ bs.drop 184) = out) := hnext
          clear hc hx hg hnext ho4 hb hr6 hout HN
          go_wp2
          go_roundw
          case rel => exact ⟨j + 1, A6, c6, out, rfl, by go_num, by omega, HN'.out.symm, HR6'.out, hc6, hA6, HO.out, HRB.out⟩
          case measure => simp only [intOf]; omega
        | false =>
          obtain ⟨y, hy⟩ : ∃ y, putB out (xo : Int) = y := ⟨_, rfl⟩
          have HN' : Hid ((l.take (j + 1)).foldl rebF (z ++ bs.drop 184) = y.getD out) := by
            rw [hnext, ← hy]; rfl
          have HP := Lib.hid (rput_any wr S (fun k h => hS k (Nat.le_trans (by have := hb.size; have := HB0.out; omega) h)) A6 c6 out bs.length hr6.1 hr6 hc6 hA6 hl (xo : Int) (by omega) y hy)
          clear hc hx hg hnext ho4 hb hr6 hout HN hy
          go_wp2_with fail
          with_reducible refine HP.out.mono ?_
          rintro e w5 ⟨A', c', rfl, hr', hn', hA', hb5⟩
          have HO5 := Lib.hid (own_below' HO.out hb5)
          have HRB5 := Lib.hid (HRB.out.trans (hb5.mono hBw))
          have HR5 := Lib.hid hr'
          clear hb5 hr' HP HO HRB
          go_wp2
          go_roundw
          case rel => exact ⟨j + 1, A', c', _, rfl, by go_num, by omega, HN'.out.symm, HR5.out, hn', hA', HO5.out, HRB5.out⟩
          case measure => simp only [intOf]; omega
      · obtain hjl : j = l.length := by omega
        have hfin : out = l.foldl rebF (z ++ bs.drop 184) := by rw [hout, hjl, List.take_length]
        have HF := Lib.hid hfin
        have HRB := Lib.hid hb
        have HR6' := Lib.hid hr6
        clear hfin hout hb hr6 ho4
        go_wp2
        go_ret2
        exact ⟨A6, c6, rfl, by rw [← HF.out]; exact HR6'.out, hc6, hA6, by rw [HB0.out]; exact HRB.out⟩
end
end Go.Proofs.Ytcjjpffkmajehaa

/- What the law's own Bytes tells (of layers 9, 10): some bytes, so many. -/
namespace Go.Proofs.Ytcjjpffkmajehaa
open Go.RowKit

/-- Some bytes, so many. -/
def SomeB (n : Nat) (w : World) (e : Ending) (w' : World) : Prop :=
  ∃ A' c' bs, e = .returned (.slice A' n c') ∧ Rd w' w'.heap.size A' n bs ∧ n ≤ c' ∧ (A' = none → c' = 0) ∧ Below w.heap.size w w'

section
variable (w : World)
set_option maxRecDepth 100000 in
set_option maxHeartbeats 2000000 in
theorem lbytes_1 (n : Nat) (hn1 : 1 ≤ n) (hn : n ≤ 2000) (A : Option Addr) (c : Nat) (l : List La) (hL : LaRd w w.heap.size A l) (hl : l.length ≤ 1000) :
    Calls Try.prog 6 #[.int .i64 (n : Int), .slice A l.length c] w fun e w' => SomeB n w e w' := by
  obtain ⟨z, hz⟩ : ∃ z, List.replicate n (0 : UInt8) = z := ⟨_, rfl⟩
  have hzl : z.length = n := by rw [← hz]; simp
  have HMK : ∀ W : World, (Instr.makeSlice 25 (.int .i64 (n : Int)) (.int .i64 (n : Int))).run Try.prog W = .ok (.slice (some ⟨W.heap.size, 0, none⟩) n n) (W.alloc (.cells (rowB z) 5)) := run_mk0 n (by omega) z hz
  have f1 : Fill (w.alloc (.cells (rowB z) 5)) w.heap.size 5 z := Fill.made w _ _
  have r1 := f1.reads
  rw [hzl] at r1
  have HR1 := Lib.hid r1
  obtain ⟨B0, hB0⟩ : ∃ B0, w.heap.size = B0 := ⟨_, rfl⟩
  have HB0 := Lib.hid hB0
  have HL := Lib.hid hL
  have HN1 := Lib.hid hn1
  have HP : Hid (∀ a : Int, ∃ p : Nat, p ≤ 2000 ∧ ∀ W : World, Calls Try.prog 14 #[.int .i64 a, .int .i64 (n : Int)] W fun e w' => e = .returned (.int .i64 (p : Int)) ∧ W = w') := fun a => by
    have h1 := Int.emod_nonneg a (b := (n : Int)) (by omega)
    have h2 := Int.emod_lt_of_pos a (b := (n : Int)) (by omega)
    exact ⟨_, by omega, fun W => lpick_any a (n : Nat) W (by omega) (by omega) _ rfl⟩
  have HP4 : Hid (∀ a : Int, ∃ p : Nat, p ≤ 4 ∧ ∀ W : World, Calls Try.prog 14 #[.int .i64 a, .int .i64 4] W fun e w' => e = .returned (.int .i64 (p : Int)) ∧ W = w') := fun a => by
    have h1 := Int.emod_nonneg a (b := 4) (by omega)
    have h2 := Int.emod_lt_of_pos a (b := 4) (by omega)
    exact ⟨_, by omega, fun W => lpick_any a 4 W (by omega) (by omega) _ rfl⟩
  clear hz r1 f1 hL hB0 hn1
  go_enter Try.func6, Try.ntmps6
  go_wp2
  go_loopw [5, 6] (fun q t wr => ∃ (j : Nat) (A5 : Option Addr) (c5 : Nat) (out : List UInt8), q = .slice A5 n c5 ∧ t = .int .i64 (j : Int) ∧ j ≤ l.length ∧ Rd wr wr.heap.size A5 n out ∧ n ≤ c5 ∧ (A5 = none → c5 = 0) ∧ Below B0 w wr) (fun _ t _ => l.length - (intOf t).toNat)
  case atStart => exact ⟨0, _, n, z, rfl, rfl, Nat.zero_le _, HR1.out.more (by simp), Nat.le_refl _, (fun h => by cases h), (Below.refl _ _).alloc (Nat.le_of_eq HB0.out.symm) _⟩
  case round =>
    obtain ⟨j, A5, c5, out, rfl, rfl, hj, hr5, hc5, hA5, hb⟩ := hrel
    have hBw : B0 ≤ wr.heap.size := by have := hb.size; have := HB0.out; omega
    by_cases hlt : j < l.length
    · obtain ⟨x, hx⟩ : ∃ x, l[j]? = some x := ⟨l[j], List.getElem?_eq_getElem hlt⟩
      have hLr : LaRd wr w.heap.size A l := HL.out.below (by rw [HB0.out]; exact hb)
      obtain ⟨b, o, rfl, hbb, hc⟩ := hLr (by omega)
      obtain ⟨p0, p1, p2, k0, k1, k2⟩ := hc j x hx
      obtain ⟨wh, at_, v⟩ := x
      dsimp only at p0 p1 p2 k0 k1 k2
      have HB := Lib.hid hb
      have HR5 := Lib.hid hr5
      obtain ⟨p, hp, hP⟩ := HP.out at_
      obtain ⟨p4, hp4, hP4⟩ := HP4.out wh
      have HPP := Lib.hid hP
      have HPP4 := Lib.hid hP4
      clear hc hx hLr hb hr5 HMK hP hP4 HP HP4
      go_wp2_with fail
      all_goals try (exfalso; have := HN1.out; omega)
      refine (HPP.out _).mono ?_
      rintro e w2 ⟨rfl, rfl⟩
      obtain ⟨w3, hw3⟩ : ∃ w3, wr.alloc (.cells #[.int .i64 wh, .int .i64 at_, .int .u64 (v : Int)] 48) = w3 := ⟨_, rfl⟩
      have hb3 : Below wr.heap.size wr w3 := by rw [← hw3]; exact (Below.refl _ _).alloc (Nat.le_refl _) _
      have n3 : w3.heap[wr.heap.size]? = some (.cells #[.int .i64 wh, .int .i64 at_, .int .u64 (v : Int)] 48 (0, 0)) := by rw [← hw3]; exact heap_alloc_new wr _
      obtain ⟨⟨c0, c1, c2⟩, _⟩ := blk_cells n3
      have hr3 := (HR5.out.below hb3).more hb3.size
      have HR3 := Lib.hid hr3
      have HB3 := Lib.hid (HB.out.trans (hb3.mono hBw))
      have hB3 : B0 ≤ w3.heap.size := Nat.le_trans hBw hb3.size
      obtain ⟨g, hg⟩ : ∃ g, wr.heap.size = g := ⟨_, rfl⟩
      have hg3 : g < w3.heap.size := by rw [← hg]; exact heap_lt' n3
      rw [hw3]
      rw [hg] at c0 c1 c2 ⊢
      clear hb3 n3 hr3 HR5 HB hw3 p0 p1 p2 HPP
      by_cases he : wh.tmod 2 = 0
      · have e1 : (wh.tmod 2 == 0) = true := by rw [he]; rfl
        have e2 : (wh.tmod 2 != 0) = false := by rw [he]; rfl
        clear HPP4
        by_cases hf : p + 8 ≤ n
        · have f1 : decide (p + 8 ≤ n) = true := decide_eq_true hf
          have hlen := HR3.out.1
          have HC := rlay_any w3 A5 c5 w3.heap.size out (by rw [hlen]; exact HR3.out) (Nat.le_refl _) hA5 (by omega) p v k2 (by omega)
          rw [hlen] at HC
          have HC := Lib.hid HC
          have HLEN := Lib.hid hlen
          have HLL := Lib.hid (layN_length out p v (by omega))
          clear hlen he
          go_wp2_with fail
          refine HC.out.mono ?_
          rintro e w4 ⟨A', c', rfl, ho4, hb4⟩
          have h4 := own_facts ho4
          have hll : (layN out p v).length = n := HLL.out.trans HLEN.out
          rw [hll] at h4 ⊢
          have H4 := Lib.hid h4
          have HB4 := Lib.hid (HB3.out.trans (hb4.mono hB3))
          have c0' := (hb4.cell (p := ⟨g, 0, none⟩) hg3).trans c0
          clear ho4 h4 hb4 HC c0 c1 c2 hll
          go_wp2
          go_roundw
          case rel => exact ⟨j + 1, A', c', _, rfl, by go_num, by omega, H4.out.1, H4.out.2.1, H4.out.2.2, HB4.out⟩
          case measure => simp only [intOf]; omega
        · have f1 : decide (p + 8 ≤ n) = false := decide_eq_false hf
          clear he
          go_wp2
          go_roundw
          case rel => exact ⟨j + 1, A5, c5, out, rfl, by go_num, by omega, HR3.out, hc5, hA5, HB3.out⟩
          case measure => simp only [intOf]; omega
      · have e1 : (wh.tmod 2 == 0) = false := beq_eq_false_iff_ne.2 he
        have e2 : (wh.tmod 2 != 0) = true := bne_iff_ne.2 he
        clear he
        go_wp2_with fail
        refine wp_region_tail w3.heap.size [([0, 1, 2, 3, 4, 5, 6, 7], 8), ([9, 10], 11)] [12, 13, 14, 15] [] (by kernel_rfl) (by kernel_rfl) (by kernel_rfl) (fun _ _ _ _ _ h => h) ?_
        obtain ⟨w4, hw4⟩ : ∃ w4, w3.drew = w4 := ⟨_, rfl⟩
        have hz4 : w3.heap.size = w4.heap.size := by rw [← hw4]; rfl
        have HR4 : Hid (Rd w4 w4.heap.size A5 n out) := by rw [← hw4]; exact HR3.out
        have HB4 : Hid (Below B0 w w4) := by rw [← hw4]; exact HB3.out.drew
        have hg4 : g < w4.heap.size := by rw [← hz4]; exact hg3
        have d0 : ∀ z : LaterB w4.heap.size w4, z.val.cell? ⟨g, 0, none⟩ = some (.int .i64 wh) := fun z => (z.ext.cell (p := ⟨g, 0, none⟩) hg4).trans (by rw [← hw4]; exact c0)
        have d2 : ∀ z : LaterB w4.heap.size w4, z.val.cell? ⟨g, 2, none⟩ = some (.int .u64 (v : Int)) := fun z => (z.ext.cell (p := ⟨g, 2, none⟩) hg4).trans (by rw [← hw4]; exact c2)
        have c0' : w4.cell? ⟨g, 0, none⟩ = some (.int .i64 wh) := by rw [← hw4]; exact c0
        rw [hw4, hz4]
        rw [hz4] at hB3
        clear hw4 HR3 HB3 c0 c1 c2
        refine tail_cons (l := ?seg1) ?hseg1 ?_
        case hseg1 => simp only [pick, List.getElem?_toArray, List.getElem?_cons_succ, List.getElem?_cons_zero]; rfl
        repeat (go_big_quiet_step (fail))
        refine wpQuiet_nil ?_
        refine tail_call (vs := #[.int .i64 wh, .int .i64 4]) Try.call14 rfl rfl rfl (R := fun r w' => r = .int .i64 (p4 : Int)) ((HPP4.out w4).mono ?_) w4.heap.size (Nat.le_refl _) ?_
        · rintro e w' ⟨rfl, rfl⟩
          exact ⟨_, rfl, Below.refl _ _, rfl⟩
        rintro r w5 hb5 rfl
        have HR5 := Lib.hid ((HR4.out.below hb5).more hb5.size)
        have HB5 := Lib.hid (HB4.out.trans (hb5.mono hB3))
        have c05 := (hb5.cell (p := ⟨g, 0, none⟩) hg4).trans c0'
        have hs5 := hb5.size
        clear d0 d2 c0' HR4 HB4 HPP4 hb5
        refine tail_cons (l := ?seg2) ?hseg2 ?_
        case hseg2 => simp only [pick, List.getElem?_toArray, List.getElem?_cons_succ, List.getElem?_cons_zero]; rfl
        simp only [Act.put, List.setIfInBounds_toArray, List.set_cons_zero, List.set_cons_succ]
        repeat (go_big_quiet_step (fail))
        refine wpQuiet_nil ?_
        obtain ⟨sz, hsz⟩ : ∃ sz : Int, (v : Int) % 20000 = sz := ⟨_, rfl⟩
        have hsz0 : 0 ≤ sz ∧ sz < 20000 := by omega
        obtain ⟨u, hu⟩ : ∃ u : Bool, ((p4 : Int) == 3) = u := ⟨_, rfl⟩
        rw [hsz, hu]
        clear hsz hu
        have hlen := HR5.out.1
        obtain ⟨y, hy⟩ : ∃ y, setB out (p : Int) sz u = y := ⟨_, rfl⟩
        have HC := rsetB_any w5 A5 c5 out (by rw [hlen]; exact HR5.out) (by omega) hA5 (by omega) (p : Int) sz u (by omega) (by omega) y hy
        rw [hlen] at HC
        have hyl : (y.getD out).length = n := by
          cases y with
          | none => exact hlen
          | some y => exact (setB_length hy).trans hlen
        refine tail_call (vs := #[.slice A5 n c5, .agg #[.int .i64 (p : Int), .int .i64 sz, .bool u]]) Try.call18 rfl rfl rfl (R := fun r w' => ∃ A' c' ok out', r = .tuple #[.slice A' n c', .bool ok] ∧ Rd w' w'.heap.size A' n out' ∧ n ≤ c' ∧ (A' = none → c' = 0)) (HC.mono ?_) w4.heap.size (Nat.le_refl _) ?_
        · rintro e w' ⟨A', c', rfl, r1, r2, r3, r4⟩
          rw [hyl] at r1 r2 ⊢
          exact ⟨_, rfl, r4.mono hs5, A', c', _, _, rfl, r1, r2, r3⟩
        rintro r w6 hb6 ⟨A', c', ok, out', rfl, r1, r2, r3⟩
        have HR6 := Lib.hid r1
        have HB6 := Lib.hid (HB5.out.trans (hb6.mono hB3))
        clear r1 hb6 HC hy hyl hlen HR5 HB5
        refine tail_last (l := ?la3) (t := []) ?hla3 ?htl3 ?_
        case hla3 => simp only [pick, List.getElem?_toArray, List.getElem?_cons_succ, List.getElem?_cons_zero]; rfl
        case htl3 => rfl
        simp only [Act.put, List.setIfInBounds_toArray, List.set_cons_zero, List.set_cons_succ]
        repeat (go_big_quiet_step (fail))
        refine wpQuiet_nil ?_
        go_wp2
        go_roundw
        case rel => exact ⟨j + 1, A', c', out', rfl, by go_num, by omega, HR6.out, r2, r3, HB6.out⟩
        case measure => simp only [intOf]; omega
    · have HB := Lib.hid hb
      have HR5 := Lib.hid hr5
      clear hb hr5 HMK
      go_wp2
      go_ret
      exact ⟨A5, c5, out, rfl, HR5.out, hc5, hA5, by rw [HB0.out]; exact HB.out⟩
set_option maxRecDepth 100000 in
set_option maxHeartbeats 2000000 in
theorem lbytes_0 (n : Nat) (hn1 : n < 1) (hn : n ≤ 2000) (A : Option Addr) (c : Nat) (l : List La) (hL : LaRd w w.heap.size A l) (hl : l.length ≤ 1000) :
    Calls Try.prog 6 #[.int .i64 (n : Int), .slice A l.length c] w fun e w' => SomeB n w e w' := by
  obtain ⟨z, hz⟩ : ∃ z, List.replicate n (0 : UInt8) = z := ⟨_, rfl⟩
  have hzl : z.length = n := by rw [← hz]; simp
  have HMK : ∀ W : World, (Instr.makeSlice 25 (.int .i64 (n : Int)) (.int .i64 (n : Int))).run Try.prog W = .ok (.slice (some ⟨W.heap.size, 0, none⟩) n n) (W.alloc (.cells (rowB z) 5)) := run_mk0 n (by omega) z hz
  have f1 : Fill (w.alloc (.cells (rowB z) 5)) w.heap.size 5 z := Fill.made w _ _
  have r1 := f1.reads
  rw [hzl] at r1
  have HR1 := Lib.hid r1
  obtain ⟨B0, hB0⟩ : ∃ B0, w.heap.size = B0 := ⟨_, rfl⟩
  have HB0 := Lib.hid hB0
  have HL := Lib.hid hL
  have HN1 := Lib.hid hn1
  have HP : Hid (∀ a : Int, ∃ p : Nat, p ≤ 2000 ∧ ∀ W : World, Calls Try.prog 14 #[.int .i64 a, .int .i64 1] W fun e w' => e = .returned (.int .i64 (p : Int)) ∧ W = w') := fun a => by
    have h1 := Int.emod_nonneg a (b := 1) (by omega)
    have h2 := Int.emod_lt_of_pos a (b := 1) (by omega)
    exact ⟨_, by omega, fun W => lpick_any a (1 : Nat) W (by omega) (by omega) _ rfl⟩
  have HP4 : Hid (∀ a : Int, ∃ p : Nat, p ≤ 4 ∧ ∀ W : World, Calls Try.prog 14 #[.int .i64 a, .int .i64 4] W fun e w' => e = .returned (.int .i64 (p : Int)) ∧ W = w') := fun a => by
    have h1 := Int.emod_nonneg a (b := 4) (by omega)
    have h2 := Int.emod_lt_of_pos a (b := 4) (by omega)
    exact ⟨_, by omega, fun W => lpick_any a 4 W (by omega) (by omega) _ rfl⟩
  clear hz r1 f1 hL hB0 hn1
  go_enter Try.func6, Try.ntmps6
  go_wp2
  go_loopw [5, 6] (fun q t wr => ∃ (j : Nat) (A5 : Option Addr) (c5 : Nat) (out : List UInt8), q = .slice A5 n c5 ∧ t = .int .i64 (j : Int) ∧ j ≤ l.length ∧ Rd wr wr.heap.size A5 n out ∧ n ≤ c5 ∧ (A5 = none → c5 = 0) ∧ Below B0 w wr) (fun _ t _ => l.length - (intOf t).toNat)
  case atStart => exact ⟨0, _, n, z, rfl, rfl, Nat.zero_le _, HR1.out.more (by simp), Nat.le_refl _, (fun h => by cases h), (Below.refl _ _).alloc (Nat.le_of_eq HB0.out.symm) _⟩
  case round =>
    obtain ⟨j, A5, c5, out, rfl, rfl, hj, hr5, hc5, hA5, hb⟩ := hrel
    have hBw : B0 ≤ wr.heap.size := by have := hb.size; have := HB0.out; omega
    by_cases hlt : j < l.length
    · obtain ⟨x, hx⟩ : ∃ x, l[j]? = some x := ⟨l[j], List.getElem?_eq_getElem hlt⟩
      have hLr : LaRd wr w.heap.size A l := HL.out.below (by rw [HB0.out]; exact hb)
      obtain ⟨b, o, rfl, hbb, hc⟩ := hLr (by omega)
      obtain ⟨p0, p1, p2, k0, k1, k2⟩ := hc j x hx
      obtain ⟨wh, at_, v⟩ := x
      dsimp only at p0 p1 p2 k0 k1 k2
      have HB := Lib.hid hb
      have HR5 := Lib.hid hr5
      obtain ⟨p, hp, hP⟩ := HP.out at_
      obtain ⟨p4, hp4, hP4⟩ := HP4.out wh
      have HPP := Lib.hid hP
      have HPP4 := Lib.hid hP4
      clear hc hx hLr hb hr5 HMK hP hP4 HP HP4
      go_wp2_with fail
      all_goals try (exfalso; have := HN1.out; omega)
      refine (HPP.out _).mono ?_
      rintro e w2 ⟨rfl, rfl⟩
      obtain ⟨w3, hw3⟩ : ∃ w3, wr.alloc (.cells #[.int .i64 wh, .int .i64 at_, .int .u64 (v : Int)] 48) = w3 := ⟨_, rfl⟩
      have hb3 : Below wr.heap.size wr w3 := by rw [← hw3]; exact (Below.refl _ _).alloc (Nat.le_refl _) _
      have n3 : w3.heap[wr.heap.size]? = some (.cells #[.int .i64 wh, .int .i64 at_, .int .u64 (v : Int)] 48 (0, 0)) := by rw [← hw3]; exact heap_alloc_new wr _
      obtain ⟨⟨c0, c1, c2⟩, _⟩ := blk_cells n3
      have hr3 := (HR5.out.below hb3).more hb3.size
      have HR3 := Lib.hid hr3
      have HB3 := Lib.hid (HB.out.trans (hb3.mono hBw))
      have hB3 : B0 ≤ w3.heap.size := Nat.le_trans hBw hb3.size
      obtain ⟨g, hg⟩ : ∃ g, wr.heap.size = g := ⟨_, rfl⟩
      have hg3 : g < w3.heap.size := by rw [← hg]; exact heap_lt' n3
      rw [hw3]
      rw [hg] at c0 c1 c2 ⊢
      clear hb3 n3 hr3 HR5 HB hw3 p0 p1 p2 HPP
      by_cases he : wh.tmod 2 = 0
      · have e1 : (wh.tmod 2 == 0) = true := by rw [he]; rfl
        have e2 : (wh.tmod 2 != 0) = false := by rw [he]; rfl
        clear HPP4
        by_cases hf : p + 8 ≤ n
        · exfalso; have := HN1.out; omega
        · have f1 : decide (p + 8 ≤ n) = false := decide_eq_false hf
          clear he
          go_wp2
          go_roundw
          case rel => exact ⟨j + 1, A5, c5, out, rfl, by go_num, by omega, HR3.out, hc5, hA5, HB3.out⟩
          case measure => simp only [intOf]; omega
      · have e1 : (wh.tmod 2 == 0) = false := beq_eq_false_iff_ne.2 he
        have e2 : (wh.tmod 2 != 0) = true := bne_iff_ne.2 he
        clear he
        go_wp2_with fail
        refine wp_region_tail w3.heap.size [([0, 1, 2, 3, 4, 5, 6, 7], 8), ([9, 10], 11)] [12, 13, 14, 15] [] (by kernel_rfl) (by kernel_rfl) (by kernel_rfl) (fun _ _ _ _ _ h => h) ?_
        obtain ⟨w4, hw4⟩ : ∃ w4, w3.drew = w4 := ⟨_, rfl⟩
        have hz4 : w3.heap.size = w4.heap.size := by rw [← hw4]; rfl
        have HR4 : Hid (Rd w4 w4.heap.size A5 n out) := by rw [← hw4]; exact HR3.out
        have HB4 : Hid (Below B0 w w4) := by rw [← hw4]; exact HB3.out.drew
        have hg4 : g < w4.heap.size := by rw [← hz4]; exact hg3
        have d0 : ∀ z : LaterB w4.heap.size w4, z.val.cell? ⟨g, 0, none⟩ = some (.int .i64 wh) := fun z => (z.ext.cell (p := ⟨g, 0, none⟩) hg4).trans (by rw [← hw4]; exact c0)
        have d2 : ∀ z : LaterB w4.heap.size w4, z.val.cell? ⟨g, 2, none⟩ = some (.int .u64 (v : Int)) := fun z => (z.ext.cell (p := ⟨g, 2, none⟩) hg4).trans (by rw [← hw4]; exact c2)
        have c0' : w4.cell? ⟨g, 0, none⟩ = some (.int .i64 wh) := by rw [← hw4]; exact c0
        rw [hw4, hz4]
        rw [hz4] at hB3
        clear hw4 HR3 HB3 c0 c1 c2
        refine tail_cons (l := ?seg1) ?hseg1 ?_
        case hseg1 => simp only [pick, List.getElem?_toArray, List.getElem?_cons_succ, List.getElem?_cons_zero]; rfl
        repeat (go_big_quiet_step (fail))
        refine wpQuiet_nil ?_
        refine tail_call (vs := #[.int .i64 wh, .int .i64 4]) Try.call14 rfl rfl rfl (R := fun r w' => r = .int .i64 (p4 : Int)) ((HPP4.out w4).mono ?_) w4.heap.size (Nat.le_refl _) ?_
        · rintro e w' ⟨rfl, rfl⟩
          exact ⟨_, rfl, Below.refl _ _, rfl⟩
        rintro r w5 hb5 rfl
        have HR5 := Lib.hid ((HR4.out.below hb5).more hb5.size)
        have HB5 := Lib.hid (HB4.out.trans (hb5.mono hB3))
        have c05 := (hb5.cell (p := ⟨g, 0, none⟩) hg4).trans c0'
        have hs5 := hb5.size
        clear d0 d2 c0' HR4 HB4 HPP4 hb5
        refine tail_cons (l := ?seg2) ?hseg2 ?_
        case hseg2 => simp only [pick, List.getElem?_toArray, List.getElem?_cons_succ, List.getElem?_cons_zero]; rfl
        simp only [Act.put, List.setIfInBounds_toArray, List.set_cons_zero, List.set_cons_succ]
        repeat (go_big_quiet_step (fail))
        refine wpQuiet_nil ?_
        obtain ⟨sz, hsz⟩ : ∃ sz : Int, (v : Int) % 20000 = sz := ⟨_, rfl⟩
        have hsz0 : 0 ≤ sz ∧ sz < 20000 := by omega
        obtain ⟨u, hu⟩ : ∃ u : Bool, ((p4 : Int) == 3) = u := ⟨_, rfl⟩
        rw [hsz, hu]
        clear hsz hu
        have hlen := HR5.out.1
        obtain ⟨y, hy⟩ : ∃ y, setB out (p : Int) sz u = y := ⟨_, rfl⟩
        have HC := rsetB_any w5 A5 c5 out (by rw [hlen]; exact HR5.out) (by omega) hA5 (by omega) (p : Int) sz u (by omega) (by omega) y hy
        rw [hlen] at HC
        have hyl : (y.getD out).length = n := by
          cases y with
          | none => exact hlen
          | some y => exact (setB_length hy).trans hlen
        refine tail_call (vs := #[.slice A5 n c5, .agg #[.int .i64 (p : Int), .int .i64 sz, .bool u]]) Try.call18 rfl rfl rfl (R := fun r w' => ∃ A' c' ok out', r = .tuple #[.slice A' n c', .bool ok] ∧ Rd w' w'.heap.size A' n out' ∧ n ≤ c' ∧ (A' = none → c' = 0)) (HC.mono ?_) w4.heap.size (Nat.le_refl _) ?_
        · rintro e w' ⟨A', c', rfl, r1, r2, r3, r4⟩
          rw [hyl] at r1 r2 ⊢
          exact ⟨_, rfl, r4.mono hs5, A', c', _, _, rfl, r1, r2, r3⟩
        rintro r w6 hb6 ⟨A', c', ok, out', rfl, r1, r2, r3⟩
        have HR6 := Lib.hid r1
        have HB6 := Lib.hid (HB5.out.trans (hb6.mono hB3))
        clear r1 hb6 HC hy hyl hlen HR5 HB5
        refine tail_last (l := ?la3) (t := []) ?hla3 ?htl3 ?_
        case hla3 => simp only [pick, List.getElem?_toArray, List.getElem?_cons_succ, List.getElem?_cons_zero]; rfl
        case htl3 => rfl
        simp only [Act.put, List.setIfInBounds_toArray, List.set_cons_zero, List.set_cons_succ]
        repeat (go_big_quiet_step (fail))
        refine wpQuiet_nil ?_
        go_wp2
        go_roundw
        case rel => exact ⟨j + 1, A', c', out', rfl, by go_num, by omega, HR6.out, r2, r3, HB6.out⟩
        case measure => simp only [intOf]; omega
    · have HB := Lib.hid hb
      have HR5 := Lib.hid hr5
      clear hb hr5 HMK
      go_wp2
      go_ret
      exact ⟨A5, c5, out, rfl, HR5.out, hc5, hA5, by rw [HB0.out]; exact HB.out⟩
theorem lbytes_any (n : Nat) (hn : n ≤ 2000) (A : Option Addr) (c : Nat) (l : List La) (hL : LaRd w w.heap.size A l) (hl : l.length ≤ 1000) :
    Calls Try.prog 6 #[.int .i64 (n : Int), .slice A l.length c] w fun e w' => SomeB n w e w' := by
  rcases Nat.lt_or_ge n 1 with h | h
  · exact lbytes_0 w n h hn A c l hL hl
  · exact lbytes_1 w n h hn A c l hL hl
end
end Go.Proofs.Ytcjjpffkmajehaa
