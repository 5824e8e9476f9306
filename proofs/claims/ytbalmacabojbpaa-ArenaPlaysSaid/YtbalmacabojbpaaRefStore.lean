/- The contract of the document's own arena: Store. -/
import Derived.Test.YtbalmacabojbpaaRefLoad
namespace Go.Proofs.Ytbalmacabojbpaa
open Go.RowKit

theorem lay_set (bs cs : List UInt8) (d k : Nat) (u : UInt8) (hu : cs[k]? = some u) (h : d + cs.length ≤ bs.length) : (lay bs d (cs.take k)).set (d + k) u = lay bs d (cs.take (k + 1)) := by
  have hk : k < cs.length := by
    rcases Nat.lt_or_ge k cs.length with h | h
    · exact h
    · rw [List.getElem?_eq_none h] at hu; cases hu
  have e : (bs.take d).length = d := by simp; omega
  have e2 : (cs.take k).length = k := by simp; omega
  have e3 : (cs.take (k + 1)).length = k + 1 := by simp; omega
  unfold lay
  rw [e2, e3, List.set_append_right _ _ (by omega), e, Nat.add_sub_cancel_left, List.set_append_right _ _ (by omega), e2, Nat.sub_self, List.drop_eq_getElem_cons (by omega), List.set_cons_zero]
  rw [List.take_add_one, hu, Option.toList_some, List.append_assoc]
  rfl

section
variable {w : World} {g base cap c : Nat} {A : Option Addr} {bs : List UInt8}
set_option maxRecDepth 100000 in
set_option maxHeartbeats 400000 in
theorem refstore_no (h : Ar w 31 g base cap A c bs) (hl : bs.length ≤ 1000000) (x n : Nat) (B : Option Addr) (k : Nat) (hx : x < 18446744073709551616) (hn : n ≤ 9223372036854775807) (h2 : base ≤ x → bs.length < x - base + n) :
    Calls Try.prog 38 #[.pointer (some ⟨g, 0, none⟩), .int .u64 (x : Int), .slice B n k] w fun e w' => e = .returned (.int .i64 2) ∧ ∃ k, w' = w.drewN k := by
  have HP := Lib.hid (there_no h hl x n hx (by omega) h2)
  clear h2
  go_enter Try.func38, Try.ntmps38
  go_wp2_with fail
  with_reducible refine HP.out.mono ?_
  rintro e w' ⟨rfl, k, rfl⟩
  go_wp2
  go_ret
  exact ⟨rfl, _, rfl⟩

set_option maxRecDepth 100000 in
set_option maxHeartbeats 1000000 in
theorem refstore_ok (h : Ar w 31 g base cap A c bs) (hl : bs.length ≤ 1000000) (x d : Nat) (B : Option Addr) (kc : Nat) (cs : List UInt8) (hr : Rd w w.heap.size B cs.length cs) (hne : 0 < cs.length → ∀ a, B = some a → ¬ foot g A a.block) (hx : x < 18446744073709551616) (h1 : base ≤ x) (hd : x - base = d) (h2 : d + cs.length ≤ bs.length) :
    Calls Try.prog 38 #[.pointer (some ⟨g, 0, none⟩), .int .u64 (x : Int), .slice B cs.length kc] w fun e w' => e = .returned (.int .i64 0) ∧ Became 31 g base cap A (lay bs d cs) w w' := by
  have HP := Lib.hid (there_yes h hl x cs.length d hx h1 hd h2)
  clear hd
  go_enter Try.func38, Try.ntmps38
  go_wp2_with fail
  with_reducible refine HP.out.mono ?_
  rintro e w' ⟨rfl, k0, rfl⟩
  have ha0 := h.drewN k0
  have hb0 : Tch (foot g A) w (w.drewN k0) := ⟨rfl, rfl, rfl, Nat.le_refl _, fun _ _ _ => rfl⟩
  have hr0 := hr.drewN k0
  have hz0 : w.heap.size = (w.drewN k0).heap.size := rfl
  generalize w.drewN k0 = w0 at ha0 hb0 hr0 hz0 ⊢
  rw [hz0] at hr0
  have HB0 := Lib.hid hb0
  have HZ0 := Lib.hid hz0
  have HA0 := Lib.hid ha0
  have HNE := Lib.hid hne
  have HR0 := Lib.hid hr0
  clear hb0 hz0 ha0 hne hr hr0 h HP
  go_wp2
  go_loopw [9] (fun i wr => ∃ k : Nat, k ≤ cs.length ∧ i = .int .i64 k ∧ Ar wr 31 g base cap A c (lay bs d (cs.take k)) ∧ Tch (foot g A) w0 wr) (fun i _ => cs.length - (intOf i).toNat)
  case atStart => exact ⟨0, Nat.zero_le _, rfl, by rw [List.take_zero, lay_nil]; exact HA0.out, Tch.refl _ _⟩
  case round =>
    obtain ⟨k, hk, rfl, ha, ht⟩ := hrel
    by_cases hlt : k < cs.length
    · obtain ⟨u, hu⟩ : ∃ u, cs[k]? = some u := ⟨cs[k], List.getElem?_eq_getElem hlt⟩
      have hlen := lay_length bs d (cs.take k) (by simp; omega)
      have hstep := lay_set bs cs d k u hu h2
      rcases A with _ | ad
      · have := HA0.out.none_.1
        rw [this] at h2
        rw [List.length_nil] at h2
        omega
      · obtain ⟨h', rfl, _, _, hcap1, hcap2, _⟩ := HA0.out.row rfl
        unfold maxLen at hcap2
        obtain ⟨w1, hw1⟩ : ∃ w1, wr.drew = w1 := ⟨_, rfl⟩
        have ha1 : Ar w1 31 g base cap (some ⟨h', 0, none⟩) c (lay bs d (cs.take k)) := by rw [← hw1]; exact ha.drew
        have ht1 : Tch (foot g (some ⟨h', 0, none⟩)) w0 w1 := by rw [← hw1]; exact ht.drew
        have hr1 : Rd w1 w1.heap.size B cs.length cs := HR0.out.tch ht1 (HNE.out (by omega))
        obtain ⟨b, o, rfl, hbl, hcs⟩ := hr1.2 (by omega)
        have hq := hcs k u hu
        obtain ⟨v, q1, q2⟩ := ha1.byte rfl (d + k) (by omega)
        obtain ⟨p1, p2⟩ := ha1.put1 (by decide) rfl (d + k) u
        rw [hstep] at p1
        have c2 := ha1.c2
        rw [hlen] at c2
        have P1 := Lib.hid p1
        have P2 := Lib.hid (ht1.trans p2 (fun _ _ h => h))
        have HW1 := Lib.hid hw1
        have hglt := ha1.lt
        clear p1 p2 hlen hstep ha ht ha1 ht1 hr1 hcs hu hw1 HR0 HNE
        go_wp2_with fail
        refine wp_region_tail w1.heap.size [] [0, 1, 2, 3, 4, 5, 6, 7, 8, 9, 10, 11] [12] (by kernel_rfl) (by kernel_rfl) (by kernel_rfl) (fun _ _ _ _ _ h => h) ?_
        rw [HW1.out]
        have t1 : ∀ x : LaterB w1.heap.size w1, x.val.cell? ⟨g, 2, none⟩ = some (.slice (some ⟨h', 0, none⟩) bs.length c) := fun x => (x.ext.cell (p := ⟨g, 2, none⟩) hglt).trans c2
        have t2 : ∀ x : LaterB w1.heap.size w1, x.val.cell? ⟨b, o + k, none⟩ = some (.int .u8 (u.toNat : Int)) := fun x => (x.ext.cell (p := ⟨b, o + k, none⟩) hbl).trans hq
        have e1 : IntKind.i64.wrap ((d : Int) + (k : Int)) = (d : Int) + (k : Int) := IntWalk.i64_in _ (by omega)
        have e2 : 0 ≤ (d : Int) + (k : Int) := by omega
        have e3 : ((d : Int) + (k : Int)).toNat = d + k := by omega
        have e4 : (d : Int) + (k : Int) < (bs.length : Int) := by omega
        have e5 : (k : Int) < (cs.length : Int) := by omega
        refine tail_last (l := ?la1) (t := ?tl1) ?hla1 ?htl1 ?_
        case hla1 => simp only [pick, List.getElem?_toArray, List.getElem?_cons_succ, List.getElem?_cons_zero]; rfl
        case htl1 => simp only [pick, List.getElem?_toArray, List.getElem?_cons_succ, List.getElem?_cons_zero]; rfl
        repeat (go_big_quiet_step (fail))
        refine wpQuiet_nil ?_
        clear t1 t2 e1 e2 e3 e4 e5
        go_wp2
        go_roundw
        case rel => exact ⟨k + 1, by omega, by go_num, P1.out, P2.out⟩
        case measure => simp [intOf]; omega
    · go_wp2
      go_ret
      obtain rfl : k = cs.length := by omega
      rw [List.take_length] at ha
      exact ⟨rfl, A, c, ha, HB0.out.trans ht (fun _ _ h => h), .inl rfl⟩
end
end Go.Proofs.Ytbalmacabojbpaa
