/- The contracts of the document's own disk: Boot, Read, Bytes. -/
import Derived.Test.YtkddcfaomaphaaaRk2
import Derived.Test.YtkddcfaomaphaaaRefLoad
namespace Go.Proofs.Ytkddcfaomaphaaa
open Go.RowKit

/-- What was written last to sector i. -/
def pickR (i : Nat) (o : Wr) (l : List Wr) : Wr := l.foldl (fun o x => if x.s = i then x else o) o
theorem pickR_snoc (i : Nat) (o : Wr) (l : List Wr) (x : Wr) : pickR i o (l ++ [x]) = if x.s = i then x else pickR i o l := by simp [pickR]
theorem pickR_mem (i : Nat) (l : List Wr) : ∀ o, pickR i o l = o ∨ pickR i o l ∈ l := by
  induction l with
  | nil => intro o; exact .inl rfl
  | cons x r ih =>
    intro o
    show pickR i (if x.s = i then x else o) r = o ∨ _
    by_cases h : x.s = i
    · rw [if_pos h]
      rcases ih x with h1 | h1
      · right; show pickR i (if x.s = i then x else o) r ∈ _; rw [if_pos h, h1]; simp
      · right; show pickR i (if x.s = i then x else o) r ∈ _; rw [if_pos h]; simp [h1]
    · rw [if_neg h]
      rcases ih o with h1 | h1
      · left; exact h1
      · right; show pickR i (if x.s = i then x else o) r ∈ _; rw [if_neg h]; simp [h1]
/-- All that stands. -/
def joinD (ls : List Wr) : List UInt8 := (ls.map Wr.d).flatten
theorem joinD_snoc (ls : List Wr) (x : Wr) : joinD (ls ++ [x]) = joinD ls ++ x.d := by simp [joinD]
theorem joinD_length (ls : List Wr) (h : ∀ x ∈ ls, x.d.length = 512) : (joinD ls).length = 512 * ls.length := by
  induction ls with
  | nil => rfl
  | cons x r ih =>
    have e : joinD (x :: r) = x.d ++ joinD r := by simp [joinD]
    rw [e, List.length_append, ih (fun y hy => h y (by simp [hy])), h x (by simp), List.length_cons]
    omega

section
variable {S : Nat → Prop} {w : World} {g : Nat} {L : Option Addr} {cl : Nat} {W : Option Addr} {cw : Nat} {ls ws : List Wr} {left : Int} {off : Bool} {K : Option Addr} {ck : Nat} {kb : List Bool}
set_option maxRecDepth 100000 in
set_option maxHeartbeats 1000000 in
theorem rboot_any (k : Rk S w g L cl W cw ls ws left off) (hk : Kp S w K kb) (hkl : kb.length ≤ 9223372036854775807) :
    Calls Try.prog 17 #[.pointer (some ⟨g, 0, none⟩), .slice K kb.length ck] w fun e w' => e = .returned (.tuple #[]) ∧ Rk S w' g L cl none 0 (rstand ls (kept ws kb)) [] (-1) false ∧ Tch S w w' := by
  go_enter Try.func17, Try.ntmps17
  go_wp2
  go_loopw [4] (fun i wr => ∃ j : Nat, j ≤ ws.length ∧ i = .int .i64 j ∧ Rk S wr g L cl W cw (rstand ls (kept (ws.take j) kb)) ws left off ∧ Tch S w wr) (fun i _ => ws.length - (intOf i).toNat)
  case atStart => exact ⟨0, Nat.zero_le _, rfl, by simpa [kept, rstand] using k, Tch.refl _ _⟩
  case round =>
    obtain ⟨j, hj, rfl, kr, ht⟩ := hrel
    obtain ⟨hc1, hc2, hc3, hc4⟩ := kr.caps
    unfold maxLen at hc2 hc4
    have c1 := kr.c1
    by_cases hlt : j < ws.length
    · obtain ⟨x, hx⟩ : ∃ x, ws[j]? = some x := ⟨ws[j], List.getElem?_eq_getElem hlt⟩
      have hxm : x ∈ ws := List.mem_of_getElem? hx
      have E := kept_step ws kb j x hx
      have hkr := hk.tch ht
      by_cases hkj : kb[j]? = some true
      · rw [if_pos hkj] at E
        have hjl : j < kb.length := by
          rcases Nat.lt_or_ge j kb.length with h | h
          · exact h
          · rw [List.getElem?_eq_none h] at hkj; cases hkj
        obtain ⟨b, o, rfl, _, _, hcb⟩ := hkr (by omega)
        have q := hcb j true hkj
        obtain ⟨w1, hw1⟩ : ∃ w1, wr.drew = w1 := ⟨_, rfl⟩
        have k1 : Rk S w1 g L cl W cw (rstand ls (kept (ws.take j) kb)) ws left off := by rw [← hw1]; exact kr.drew
        have t1 : Tch S w w1 := by rw [← hw1]; exact ht.drew
        obtain ⟨hxs, _, _⟩ := k1.wf x hxm
        have hlen := rstand_length (kept (ws.take j) kb) ls
        obtain ⟨y, hy⟩ : ∃ y, (rstand ls (kept (ws.take j) kb))[x.s]? = some y := ⟨_, List.getElem?_eq_getElem hxs⟩
        obtain ⟨gw, rfl, d0, d1⟩ := k1.at_ hx
        obtain ⟨gl, rfl, l0, l1⟩ := k1.lat hy
        obtain ⟨k2, t2⟩ := k1.over hxm rfl
        have e2 : (rstand ls (kept (ws.take j) kb)).set x.s x = rstand ls (kept (ws.take (j + 1)) kb) := by rw [E, rstand_snoc]
        rw [e2] at k2
        have K2 : Hid (Rk S (w1.setCell ⟨gl, x.s, none⟩ (.slice (some ⟨x.b, 0, none⟩) 512 x.c)) g (some ⟨gl, 0, none⟩) cl (some ⟨gw, 0, none⟩) cw (rstand ls (kept (ws.take (j + 1)) kb)) ws left off) := k2
        have T2 : Hid (Tch S w (w1.setCell ⟨gl, x.s, none⟩ (.slice (some ⟨x.b, 0, none⟩) 512 x.c))) := t1.trans t2 (fun _ _ h => h)
        have q0 := k1.c0
        have q1 := k1.c1
        rw [hlen] at q0 hxs
        have hgl := k1.lt
        have hwl := k1.wlt rfl
        have HW1 := Lib.hid hw1
        clear hx hxm k1 t1 hlen hy k2 t2 e2 hw1 kr ht k E hkj hcb hkr hk
        go_wp2_with fail
        refine wp_region_tail w1.heap.size [] [0, 1, 2, 3, 4, 5, 6, 7, 8, 9, 10, 11, 12, 13, 14, 15, 16, 17, 18, 19, 20] [21] (by kernel_rfl) (by kernel_rfl) (by kernel_rfl) (fun _ _ _ _ _ h => h) ?_
        rw [HW1.out]
        have z0 : ∀ z : LaterB w1.heap.size w1, z.val.cell? ⟨g, 0, none⟩ = some (.slice (some ⟨gl, 0, none⟩) ls.length cl) := fun z => (z.ext.cell (p := ⟨g, 0, none⟩) hgl).trans q0
        have z1 : ∀ z : LaterB w1.heap.size w1, z.val.cell? ⟨g, 1, none⟩ = some (.slice (some ⟨gw, 0, none⟩) ws.length cw) := fun z => (z.ext.cell (p := ⟨g, 1, none⟩) hgl).trans q1
        have z2 : ∀ z : LaterB w1.heap.size w1, z.val.cell? ⟨gw, j * 2, none⟩ = some (.int .i64 (x.s : Int)) := fun z => (z.ext.cell (p := ⟨gw, j * 2, none⟩) hwl).trans d0
        have z3 : ∀ z : LaterB w1.heap.size w1, z.val.cell? ⟨gw, j * 2 + 1, none⟩ = some (.slice (some ⟨x.b, 0, none⟩) 512 x.c) := fun z => (z.ext.cell (p := ⟨gw, j * 2 + 1, none⟩) hwl).trans d1
        have e1 : (j : Int) < (ws.length : Int) := by omega
        have e2 : (x.s : Int) < (ls.length : Int) := by omega
        refine tail_last (l := ?la1) (t := ?tl1) ?hla1 ?htl1 ?_
        case hla1 => simp only [pick, List.getElem?_toArray, List.getElem?_cons_succ, List.getElem?_cons_zero]; rfl
        case htl1 => simp only [pick, List.getElem?_toArray, List.getElem?_cons_succ, List.getElem?_cons_zero]; rfl
        repeat (go_big_quiet_step (fail))
        refine wpQuiet_nil ?_
        clear z0 z1 z2 z3
        go_wp2
        go_roundw
        case rel => exact ⟨j + 1, by omega, by go_num, K2.out, T2.out⟩
        case measure => simp [intOf]; omega
      · rw [if_neg hkj, List.append_nil] at E
        have K2 : Hid (Rk S wr g L cl W cw (rstand ls (kept (ws.take (j + 1)) kb)) ws left off) := by rw [E]; exact kr
        have HT := Lib.hid ht
        by_cases hjl : j < kb.length
        · have hkf : kb[j]? = some false := by
            rw [List.getElem?_eq_getElem hjl] at hkj ⊢
            cases h : kb[j] <;> simp_all
          obtain ⟨b, o, rfl, _, _, hcb⟩ := hkr (by omega)
          have q := hcb j false hkf
          clear hx hxm kr ht k E hkj hcb hkr hk hkf
          go_wp2
          go_roundw
          case rel => exact ⟨j + 1, by omega, by go_num, K2.out, HT.out⟩
          case measure => simp [intOf]; omega
        · clear hx hxm kr ht k E hkj hkr hk
          go_wp2
          go_roundw
          case rel => exact ⟨j + 1, by omega, by go_num, K2.out, HT.out⟩
          case measure => simp [intOf]; omega
    · obtain rfl : j = ws.length := by omega
      rw [List.take_length] at kr
      have f1 := kr.thaw 1
      have k2 := kr.none_
      have d2 := k2.c2
      have f2 := k2.thaw 2
      have k3 := k2.set2 false
      have d3 := k3.c3
      have f3 := k3.thaw 3
      have K4 := Lib.hid (k3.set3 (-1))
      have T4 := Lib.hid (((ht.trans (Tch.set (S := S) wr ⟨g, 1, none⟩ (.slice none 0 0) kr.sg) (fun _ _ h => h)).trans (Tch.set (S := S) _ ⟨g, 2, none⟩ (.bool false) kr.sg) (fun _ _ h => h)).trans (Tch.set (S := S) _ ⟨g, 3, none⟩ (.int .i64 (-1)) kr.sg) (fun _ _ h => h))
      clear kr ht k k2 k3 hk
      go_wp2
      go_end0
      exact ⟨rfl, K4.out, T4.out⟩

set_option maxRecDepth 100000 in
set_option maxHeartbeats 400000 in
theorem rread_arg (k : Rk S w g L cl W cw ls ws left off) (i : Int) (hi : i < 0 ∨ (ls.length : Int) ≤ i) :
    Calls Try.prog 29 #[.pointer (some ⟨g, 0, none⟩), .int .i64 i] w fun e w' => e = .returned (.tuple #[.slice none 0 0, .int .i64 1]) ∧ w = w' := by
  have c0 := k.c0
  by_cases h0 : i < 0
  · clear hi k
    go_enter Try.func29, Try.ntmps29
    go_wp2
    go_ret2
    exact ⟨rfl, rfl⟩
  · have h1 : (ls.length : Int) ≤ i := by omega
    clear hi k
    go_enter Try.func29, Try.ntmps29
    go_wp2
    go_ret2
    exact ⟨rfl, rfl⟩

set_option maxRecDepth 100000 in
set_option maxHeartbeats 400000 in
theorem rread_off (k : Rk S w g L cl W cw ls ws left true) (i : Nat) (hi : i < ls.length) :
    Calls Try.prog 29 #[.pointer (some ⟨g, 0, none⟩), .int .i64 (i : Int)] w fun e w' => e = .returned (.tuple #[.slice none 0 0, .int .i64 6]) ∧ w = w' := by
  have c0 := k.c0
  have c2 := k.c2
  have h0 : ¬ (i : Int) < 0 := by omega
  clear k
  go_enter Try.func29, Try.ntmps29
  go_wp2
  go_ret2
  exact ⟨rfl, rfl⟩

set_option maxRecDepth 100000 in
set_option maxHeartbeats 1000000 in
theorem rread_ok (k : Rk S w g L cl W cw ls ws left false) (i : Nat) (y : Wr) (hy : ls[i]? = some y) :
    Calls Try.prog 29 #[.pointer (some ⟨g, 0, none⟩), .int .i64 (i : Int)] w fun e w' => RefTold (pickR i y ws).d w e w' := by
  have hi : i < ls.length := by
    rcases Nat.lt_or_ge i ls.length with h | h
    · exact h
    · rw [List.getElem?_eq_none h] at hy; cases hy
  have h0 : ¬ (i : Int) < 0 := by omega
  have c0 := k.c0
  have c1 := k.c1
  have c2 := k.c2
  obtain ⟨hc1, hc2, hc3, hc4⟩ := k.caps
  unfold maxLen at hc2 hc4
  obtain ⟨gl, rfl, l0, l1⟩ := k.lat hy
  have HY := Lib.hid hy
  have HK := Lib.hid k
  clear hy k l1
  go_enter Try.func29, Try.ntmps29
  go_wp2
  go_loopw [6, 7] (fun o t wr => ∃ (j : Nat) (z : Wr), j ≤ ws.length ∧ t = .int .i64 j ∧ pickR i y (ws.take j) = z ∧ o = .slice (some ⟨z.b, 0, none⟩) 512 z.c ∧ wr = w) (fun _ t _ => ws.length - (intOf t).toNat)
  case atStart => exact ⟨0, y, Nat.zero_le _, rfl, rfl, rfl, rfl⟩
  case round =>
    obtain ⟨j, z, hj, rfl, hz, rfl, rfl⟩ := hrel
    by_cases hlt : j < ws.length
    · obtain ⟨x, hx⟩ : ∃ x, ws[j]? = some x := ⟨ws[j], List.getElem?_eq_getElem hlt⟩
      obtain ⟨gw, rfl, d0, d1⟩ := HK.out.at_ hx
      have E : pickR i y (ws.take (j + 1)) = if x.s = i then x else z := by rw [List.take_add_one, hx, Option.toList_some, pickR_snoc, hz]
      by_cases hs : x.s = i
      · rw [if_pos hs] at E
        have HE := Lib.hid E
        have hq : ((x.s : Int) == (i : Int)) = true := by rw [beq_iff_eq]; omega
        clear hx hz E hs
        go_wp2
        go_roundw
        case rel => exact ⟨j + 1, x, by omega, by go_num, HE.out, rfl, trivial⟩
        case measure => simp [intOf]; omega
      · rw [if_neg hs] at E
        have HE := Lib.hid E
        have hq : ((x.s : Int) == (i : Int)) = false := by rw [beq_eq_false_iff_ne]; omega
        clear hx hz E hs
        go_wp2
        go_roundw
        case rel => exact ⟨j + 1, z, by omega, by go_num, HE.out, rfl, trivial⟩
        case measure => simp [intOf]; omega
    · obtain rfl : j = ws.length := by omega
      rw [List.take_length] at hz
      have HZ := Lib.hid hz
      obtain ⟨hz1, hz2⟩ : z.d.length = 512 ∧ Fil wr z.b z.d := by
        rcases pickR_mem i ws y with h | h
        · rw [hz] at h; subst h
          exact HK.out.lf _ (List.mem_of_getElem? HY.out)
        · rw [hz] at h
          exact (HK.out.wf _ h).2
      have rs := hz2.reads
      rw [hz1] at rs
      have RS := Lib.hid (rs.alloc (Nat.le_refl _) (.cells #[] 5))
      have OWN1 : Hid ((wr.alloc (.cells #[] 5)).ownsRow wr.heap.size 5 1 (.slice (some ⟨wr.heap.size, 0, none⟩) 0 0) 0 (([] : List UInt8).map bv)) := World.ownsRow_lit wr _ 0 (Nat.le_refl _) (by unfold maxLen; omega) rfl
      have HZ1 := Lib.hid hz1
      clear hz hz1 hz2 rs
      go_wp2_with (first
        | (at_builtin; go_must (refine append_bytes rfl (.tmp 57) (.tmp 58) 22 5 rfl Try.underlying22 u8_inf wr.heap.size (.slice (some ⟨wr.heap.size, 0, none⟩) 0 0) 0 [] rfl OWN1.out wr.heap.size (some ⟨z.b, 0, none⟩) 512 _ z.d rfl RS.out (fun e => by cases e) (by omega) (by simp) ?_); intro x2 w2 own2 hb2 gr2; have own3 : w2.ownsRow wr.heap.size 5 1 x2 z.d.length (z.d.map bv) := (by rw [HZ1.out]; simpa using own2); have OWN3 := Lib.hid own3; have HB2 := Lib.hid hb2; clear own2 own3 gr2 hb2))
      go_ret2
      rw [HZ.out]
      obtain ⟨_, A', c', rfl⟩ := own_slice OWN3.out
      exact ⟨A', c', rfl, OWN3.out, ((Below.refl _ _).alloc (Nat.le_refl _) _).trans HB2.out⟩

set_option maxRecDepth 100000 in
set_option maxHeartbeats 1000000 in
theorem rbytes_any (k : Rk S w g L cl W cw ls ws left off) (hl : ls.length ≤ 1000) :
    Calls Try.prog 19 #[.pointer (some ⟨g, 0, none⟩)] w fun e w' => NewRow (joinD ls) w e w' := by
  have HK := Lib.hid k
  obtain ⟨hc1, hc2, _, _⟩ := k.caps
  unfold maxLen at hc2
  clear k
  go_enter Try.func19, Try.ntmps19
  go_wp2
  go_loopw [3, 4] (fun o t wr => ∃ j : Nat, j ≤ ls.length ∧ t = .int .i64 j ∧ wr.ownsRow w.heap.size 5 1 o (512 * j) ((joinD (ls.take j)).map bv) ∧ Below w.heap.size w wr) (fun _ t _ => ls.length - (intOf t).toNat)
  case atStart => exact ⟨0, Nat.zero_le _, rfl, World.ownsRow_nil _ _ _ _, Below.refl _ _⟩
  case round =>
    obtain ⟨j, hj, rfl, hown, hb⟩ := hrel
    have kr := HK.out.below hb
    have c0 := kr.c0
    by_cases hlt : j < ls.length
    · obtain ⟨x, hx⟩ : ∃ x, ls[j]? = some x := ⟨ls[j], List.getElem?_eq_getElem hlt⟩
      obtain ⟨gl, rfl, l0, _⟩ := kr.lat hx
      obtain ⟨hx1, hx2⟩ := kr.lf x (List.mem_of_getElem? hx)
      have rs := hx2.reads
      rw [hx1] at rs
      have E : joinD (ls.take (j + 1)) = joinD (ls.take j) ++ x.d := by rw [List.take_add_one, hx, Option.toList_some, joinD_snoc]
      have HE := Lib.hid E
      have RS := Lib.hid rs
      have OWN := Lib.hid hown
      have HB := Lib.hid hb
      clear hx hx1 hx2 rs E kr hown hb
      go_wp2_with (first
        | (at_builtin; go_must (refine append_bytes rfl (.tmp 14) (.tmp 21) 22 5 rfl Try.underlying22 u8_inf w.heap.size _ (512 * j) (joinD (ls.take j)) rfl OWN.out wr.heap.size (some ⟨x.b, 0, none⟩) 512 _ x.d rfl RS.out (fun e => by cases e) (by omega) HB.out.size ?_); intro x2 w2 own2 hb2 gr2; have OWN3 := Lib.hid own2; have HB2 := Lib.hid (HB.out.trans hb2); clear own2 gr2 hb2))
      go_roundw
      case rel => exact ⟨j + 1, by omega, by go_num, by rw [HE.out]; exact OWN3.out, HB2.out⟩
      case measure => simp [intOf]; omega
    · obtain rfl : j = ls.length := by omega
      rw [List.take_length] at hown
      have hjl := joinD_length ls (fun x hx => (kr.lf x hx).1)
      rw [← hjl] at hown
      go_wp2
      go_ret
      obtain ⟨e1, A', c', rfl⟩ := own_slice hown
      exact ⟨A', c', rfl, hown, hb⟩
end
end Go.Proofs.Ytkddcfaomaphaaa
