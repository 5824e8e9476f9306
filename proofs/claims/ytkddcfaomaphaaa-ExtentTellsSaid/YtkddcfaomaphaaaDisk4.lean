/- The contracts of a disk's Read; of the law's words: Sector, Pick. -/
import Derived.Test.YtkddcfaomaphaaaDisk3
namespace Go.Proofs.Ytkddcfaomaphaaa
open Go.RowKit

/-- What was written last to sector i, or what stands there. -/
def lastD (bs : List UInt8) (l : List (Nat × List UInt8)) (i : Nat) : List UInt8 := match l.reverse.find? (fun x => x.1 == i) with
  | some x => x.2
  | none => (bs.drop (i * 512)).take 512
theorem lastD_at (bs : List UInt8) (l : List (Nat × List UInt8)) (i j : Nat) (x : Nat × List UInt8) (hx : l[j]? = some x) (he : x.1 = i) (hn : ∀ y ∈ l.drop (j + 1), y.1 ≠ i) : lastD bs l i = x.2 := by
  have hj : j < l.length := by
    rcases Nat.lt_or_ge j l.length with h | h
    · exact h
    · rw [List.getElem?_eq_none h] at hx; cases hx
  have e : l.reverse = (l.drop (j + 1)).reverse ++ x :: (l.take j).reverse := by
    rw [List.getElem?_eq_getElem hj] at hx
    injection hx with hx
    subst hx
    conv => lhs; rw [← List.take_append_drop (j + 1) l]
    rw [List.reverse_append, List.take_succ_eq_append_getElem hj, List.reverse_append]
    rfl
  have hf : (l.drop (j + 1)).reverse.find? (fun x => x.1 == i) = none := by
    rw [List.find?_eq_none]
    intro y hy
    have := hn y (by simpa using hy)
    simpa using this
  unfold lastD
  rw [e, List.find?_append, hf, Option.none_or, List.find?_cons_of_pos (by simpa using he)]
theorem lastD_none (bs : List UInt8) (l : List (Nat × List UInt8)) (i : Nat) (hn : ∀ y ∈ l, y.1 ≠ i) : lastD bs l i = (bs.drop (i * 512)).take 512 := by
  have hf : l.reverse.find? (fun x => x.1 == i) = none := by
    rw [List.find?_eq_none]
    intro y hy
    have := hn y (by simpa using hy)
    simpa using this
  unfold lastD
  rw [hf]

/-- A slice of 512 bytes that reads so. -/
def LastTold (bs : List UInt8) (w : World) (e : Ending) (w' : World) : Prop := ∃ b o c', e = .returned (.slice (some ⟨b, o, none⟩) 512 c') ∧ Rd w w.heap.size (some ⟨b, o, none⟩) 512 bs ∧ w = w'

section
variable {S : Nat → Prop} {w : World} {g h c : Nat} {W : Option Addr} {cw : Nat} {bs : List UInt8} {ws : List Wr} {left : Int} {off : Bool}
set_option maxRecDepth 100000 in
set_option maxHeartbeats 1000000 in
theorem last_any (k : Dk S w g h c W cw bs ws left off) (hl : bs.length ≤ 100000) (i : Nat) (hi : i * 512 + 512 ≤ bs.length) :
    Calls Try.prog 34 #[.pointer (some ⟨g, 0, none⟩), .int .i64 (i : Int)] w fun e w' => LastTold (lastD bs (ws.map Wr.two) i) w e w' := by
  have c1 := k.c1
  have hwc := k.wcap
  unfold maxLen at hwc
  have HST := Lib.hid (standing_any k hl i hi)
  go_enter Try.func34, Try.ntmps34
  go_wp2
  go_loop [5] (fun t => ∃ j : Nat, j ≤ ws.length ∧ t = .int .i64 ((j : Int) - 1) ∧ ∀ y ∈ (ws.map Wr.two).drop j, y.1 ≠ i) (fun t => (intOf t + 1).toNat)
  case atStart => exact ⟨ws.length, Nat.le_refl _, rfl, by rw [List.drop_of_length_le (by simp)]; intro y hy; cases hy⟩
  case round =>
    obtain ⟨j, hj, rfl, hn⟩ := hrel
    rcases j with _ | j
    · have hn2 := lastD_none bs (ws.map Wr.two) i (by simpa using hn)
      have hrd := k.reads.sub (i * 512) 512 hi
      rw [← hn2, Nat.zero_add] at hrd
      have HRD := Lib.hid hrd
      clear hn hn2 hrd k
      go_wp2_with fail
      refine HST.out.mono ?_
      rintro e w1 ⟨rfl, rfl⟩
      go_wp2
      go_ret
      exact ⟨h, i * 512, _, rfl, HRD.out, rfl⟩
    · obtain ⟨x, hx⟩ : ∃ x, ws[j]? = some x := ⟨ws[j], List.getElem?_eq_getElem (by omega)⟩
      obtain ⟨gw, rfl, d0, d1⟩ := k.at_ hx
      have hxm : x ∈ ws := List.mem_of_getElem? hx
      obtain ⟨x1, x2, x3, x4⟩ := k.row x hxm
      have ej : ((j + 1 : Nat) : Int) - 1 = (j : Int) := by omega
      rw [ej]
      have hjl : j < ws.length := by omega
      by_cases hs : x.s = i
      · have hn2 := lastD_at bs (ws.map Wr.two) i j (Wr.two x) (by rw [List.getElem?_map, hx]; rfl) hs hn
        have hrd := x4.reads
        rw [x3] at hrd
        have e : x.d = lastD bs (ws.map Wr.two) i := hn2.symm
        rw [e] at hrd
        have HRD := Lib.hid hrd
        have hq : ((x.s : Int) == (i : Int)) = true := by rw [beq_iff_eq]; omega
        clear hn hn2 hrd e k x1 x2 x3 x4 hx ej hs
        go_wp2
        go_ret
        exact ⟨x.b, 0, _, rfl, HRD.out, rfl⟩
      · have hq : ((x.s : Int) == (i : Int)) = false := by rw [beq_eq_false_iff_ne]; omega
        have hn2 : ∀ y ∈ (ws.map Wr.two).drop j, y.1 ≠ i := by
          intro y hy
          rw [List.drop_eq_getElem_cons (by simpa using hjl)] at hy
          rcases List.mem_cons.1 hy with rfl | hy
          · rw [List.getElem?_eq_getElem hjl] at hx
            injection hx with hx
            rw [List.getElem_map, hx]
            exact hs
          · exact hn y hy
        have HN := Lib.hid hn2
        clear hn hn2 k x1 x2 x3 x4 hx ej hs
        go_wp2
        go_round
        case rel => exact ⟨j, by omega, rfl, HN.out⟩
        case measure => simp [intOf]

set_option maxRecDepth 100000 in
set_option maxHeartbeats 1000000 in
theorem dread_ok (k : Dk S w g h c W cw bs ws left false) (hl : bs.length ≤ 100000) (i : Nat) (hi : i * 512 + 512 ≤ bs.length) :
    Calls Try.prog 28 #[.pointer (some ⟨g, 0, none⟩), .int .i64 (i : Int)] w fun e w' => Told (lastD bs (ws.map Wr.two) i) w e w' := by
  have HH := Lib.hid (dhas_yes k hl i hi)
  have HL := Lib.hid (last_any k hl i hi)
  have c3 := k.c3
  clear k
  obtain ⟨ys, hys⟩ : ∃ ys, lastD bs (ws.map Wr.two) i = ys := ⟨_, rfl⟩
  rw [hys] at HL ⊢
  clear hys
  go_enter Try.func28, Try.ntmps28
  go_wp2_with fail
  refine HH.out.mono ?_
  rintro e w1 ⟨rfl, rfl⟩
  go_wp2_with fail
  refine HL.out.mono ?_
  rintro e w1 ⟨b, o, c', rfl, hr, rfl⟩
  have hlen : ys.length = 512 := hr.1
  have HC := sclone_any (some ⟨b, o, none⟩) c' w.heap.size ys w (by rw [hlen]; exact hr) (Nat.le_refl _) (fun e => by cases e) (by omega)
  rw [hlen] at HC
  have HC := Lib.hid HC
  clear hlen hr
  go_wp2_with fail
  refine HC.out.mono ?_
  rintro e w2 ⟨A', c2, rfl, ho, hb⟩
  have HO := Lib.hid ho
  clear ho
  go_wp2
  go_ret2
  exact ⟨A', c2, rfl, HO.out, hb⟩
end

end Go.Proofs.Ytkddcfaomaphaaa
