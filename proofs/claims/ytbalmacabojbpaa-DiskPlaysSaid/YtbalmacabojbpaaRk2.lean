/- The contracts of the document's own disk: Cut, Flush, Boot. -/
import Derived.Test.YtbalmacabojbpaaRk
namespace Go.Proofs.Ytbalmacabojbpaa
open Go.RowKit

/-- What stands once some stand. -/
def rstand (ls : List Wr) (l : List Wr) : List Wr := l.foldl (fun ls x => ls.set x.s x) ls
theorem rstand_length (l : List Wr) : ∀ ls, (rstand ls l).length = ls.length := by
  induction l with
  | nil => intro ls; rfl
  | cons x r ih => intro ls; show (rstand (ls.set x.s x) r).length = _; rw [ih, List.length_set]
theorem rstand_snoc (ls l : List Wr) (x : Wr) : rstand ls (l ++ [x]) = (rstand ls l).set x.s x := by simp [rstand]

section
variable {S : Nat → Prop} {w : World} {g : Nat} {L : Option Addr} {cl : Nat} {W : Option Addr} {cw : Nat} {ls ws : List Wr} {left : Int} {off : Bool}
set_option maxRecDepth 100000 in
set_option maxHeartbeats 400000 in
theorem rcut_any (k : Rk S w g L cl W cw ls ws left off) (n m : Int) (hm : (if n < 0 then -1 else n) = m) :
    Calls Try.prog 53 #[.pointer (some ⟨g, 0, none⟩), .int .i64 n] w fun e w' => e = .returned (.tuple #[]) ∧ Rk S w' g L cl W cw ls ws m off ∧ Tch S w w' := by
  have c3 := k.c3
  have f3 := k.thaw 3
  have k1 := k.set3 n
  have t1 := Tch.set (S := S) w ⟨g, 3, none⟩ (.int .i64 n) k.sg
  by_cases h0 : n < 0
  · obtain rfl : m = -1 := by rw [if_pos h0] at hm; exact hm.symm
    have c3' := k1.c3
    have f3' := k1.thaw 3
    have K2 := Lib.hid (k1.set3 (-1))
    have T2 := Lib.hid (t1.trans (Tch.set (S := S) _ ⟨g, 3, none⟩ (.int .i64 (-1)) k.sg) (fun _ _ h => h))
    clear hm k k1 t1
    go_enter Try.func53, Try.ntmps53
    go_wp2
    go_end0
    exact ⟨rfl, K2.out, T2.out⟩
  · obtain rfl : n = m := by rw [if_neg h0] at hm; exact hm
    have K1 := Lib.hid k1
    have T1 := Lib.hid t1
    clear hm k k1 t1
    go_enter Try.func53, Try.ntmps53
    go_wp2
    go_end0
    exact ⟨rfl, K1.out, T1.out⟩

set_option maxRecDepth 100000 in
set_option maxHeartbeats 400000 in
theorem rflush_off (k : Rk S w g L cl W cw ls ws left true) :
    Calls Try.prog 51 #[.pointer (some ⟨g, 0, none⟩)] w fun e w' => e = .returned (.int .i64 6) ∧ w = w' := by
  have c2 := k.c2
  go_enter Try.func51, Try.ntmps51
  go_wp2
  go_ret
  exact ⟨rfl, rfl⟩

set_option maxRecDepth 100000 in
set_option maxHeartbeats 1000000 in
theorem rflush_ok (k : Rk S w g L cl W cw ls ws left false) :
    Calls Try.prog 51 #[.pointer (some ⟨g, 0, none⟩)] w fun e w' => e = .returned (.int .i64 0) ∧ Rk S w' g L cl none 0 (rstand ls ws) [] left false ∧ Tch S w w' := by
  have c2 := k.c2
  go_enter Try.func51, Try.ntmps51
  go_wp2
  clear c2
  go_loopw [3] (fun i wr => ∃ j : Nat, j ≤ ws.length ∧ i = .int .i64 j ∧ Rk S wr g L cl W cw (rstand ls (ws.take j)) ws left false ∧ Tch S w wr) (fun i _ => ws.length - (intOf i).toNat)
  case atStart => exact ⟨0, Nat.zero_le _, rfl, k, Tch.refl _ _⟩
  case round =>
    obtain ⟨j, hj, rfl, kr, ht⟩ := hrel
    obtain ⟨hc1, hc2, hc3, hc4⟩ := kr.caps
    unfold maxLen at hc2 hc4
    have c1 := kr.c1
    by_cases hlt : j < ws.length
    · obtain ⟨x, hx⟩ : ∃ x, ws[j]? = some x := ⟨ws[j], List.getElem?_eq_getElem hlt⟩
      have hxm : x ∈ ws := List.mem_of_getElem? hx
      obtain ⟨w1, hw1⟩ : ∃ w1, wr.drew = w1 := ⟨_, rfl⟩
      have k1 : Rk S w1 g L cl W cw (rstand ls (ws.take j)) ws left false := by rw [← hw1]; exact kr.drew
      have t1 : Tch S w w1 := by rw [← hw1]; exact ht.drew
      obtain ⟨hxs, _, _⟩ := k1.wf x hxm
      have hlen := rstand_length (ws.take j) ls
      obtain ⟨y, hy⟩ : ∃ y, (rstand ls (ws.take j))[x.s]? = some y := ⟨_, List.getElem?_eq_getElem hxs⟩
      obtain ⟨gw, rfl, d0, d1⟩ := k1.at_ hx
      obtain ⟨gl, rfl, l0, l1⟩ := k1.lat hy
      obtain ⟨k2, t2⟩ := k1.over hxm rfl
      have e2 : (rstand ls (ws.take j)).set x.s x = rstand ls (ws.take (j + 1)) := by rw [List.take_add_one, hx, Option.toList_some, rstand_snoc]
      rw [e2] at k2
      have K2 : Hid (Rk S (w1.setCell ⟨gl, x.s, none⟩ (.slice (some ⟨x.b, 0, none⟩) 512 x.c)) g (some ⟨gl, 0, none⟩) cl (some ⟨gw, 0, none⟩) cw (rstand ls (ws.take (j + 1))) ws left false) := k2
      have T2 : Hid (Tch S w (w1.setCell ⟨gl, x.s, none⟩ (.slice (some ⟨x.b, 0, none⟩) 512 x.c))) := t1.trans t2 (fun _ _ h => h)
      have q0 := k1.c0
      have q1 := k1.c1
      rw [hlen] at q0 hxs
      have hgl := k1.lt
      have hwl := k1.wlt rfl
      have HW1 := Lib.hid hw1
      clear hx hxm k1 t1 hlen hy k2 t2 e2 hw1 kr ht k
      go_wp2_with fail
      refine wp_region_tail w1.heap.size [] [0, 1, 2, 3, 4, 5, 6, 7, 8, 9, 10, 11, 12, 13, 14, 15, 16, 17, 18, 19, 20] [21] (by kernel_rfl) (by kernel_rfl) (by kernel_rfl) (fun _ _ _ _ _ h => h) ?_
      rw [HW1.out]
      have z0 : ∀ z : LaterB w1.heap.size w1, z.val.cell? ⟨g, 0, none⟩ = some (.slice (some ⟨gl, 0, none⟩) ls.length cl) := fun z => (z.ext.cell (p := ⟨g, 0, none⟩) hgl).trans q0
      have z1 : ∀ z : LaterB w1.heap.size w1, z.val.cell? ⟨g, 1, none⟩ = some (.slice (some ⟨gw, 0, none⟩) ws.length cw) := fun z => (z.ext.cell (p := ⟨g, 1, none⟩) hgl).trans q1
      have z2 : ∀ z : LaterB w1.heap.size w1, z.val.cell? ⟨gw, j * 2, none⟩ = some (.int .i64 (x.s : Int)) := fun z => (z.ext.cell (p := ⟨gw, j * 2, none⟩) hwl).trans d0
      have z3 : ∀ z : LaterB w1.heap.size w1, z.val.cell? ⟨gw, j * 2 + 1, none⟩ = some (.slice (some ⟨x.b, 0, none⟩) 512 x.c) := fun z => (z.ext.cell (p := ⟨gw, j * 2 + 1, none⟩) hwl).trans d1
      have e1 : (j : Int) < (ws.length : Int) := by omega
      have e2 : (x.s : Int) < (ls.length : Int) := by omega
      refine tail_last (l := ?la1) (t := ?tl1) ?hla1 ?htl1 ?_
      case hla1 => simp only [pick, List.getElem?_toArray, List.getElem?_cons_succ, List.getElem?_cons_zero]; rfl
      case htl1 => simp only [pick, List.getElem?_toArray, List.getElem?_cons_succ, List.getElem?_cons_zero]; rfl
      repeat (go_big_quiet_step (fail))
      refine wpQuiet_nil ?_
      clear z0 z1 z2 z3
      go_wp2
      go_roundw
      case rel => exact ⟨j + 1, by omega, by go_num, K2.out, T2.out⟩
      case measure => simp [intOf]; omega
    · obtain rfl : j = ws.length := by omega
      rw [List.take_length] at kr
      have f1 := kr.thaw 1
      have K2 := Lib.hid kr.none_
      have T2 := Lib.hid (ht.trans (Tch.set (S := S) wr ⟨g, 1, none⟩ (.slice none 0 0) kr.sg) (fun _ _ h => h))
      clear kr ht k
      go_wp2
      go_ret
      exact ⟨rfl, K2.out, T2.out⟩
end
end Go.Proofs.Ytbalmacabojbpaa
