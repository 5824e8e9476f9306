/- The document's images: Put (genimg6.py). -/
import Derived.Test.YteomiekjcnpnlaaImg4
import Derived.Test.YteomiekjcnpnlaaRef1
import Derived.Test.YteomiekjcnpnlaaPlan
import Derived.Deep.Cut
namespace Go.Proofs.Yteomiekjcnpnlaa
open Go.RowKit

theorem own_stay {w w' : World} {B' base n size : Nat} {t : TypeId} {v : Value} {xs : List Value} (h : w.ownsRow base t size v n xs) (hb : Below B' w w') (hlt : ∀ k, v.ownBlock = some k → k < B') : w'.ownsRow base t size v n xs := by
  refine ⟨h.1, ?_⟩
  rcases h.2 with h2 | ⟨g, cap, cur, hv, hg, hh, r⟩
  · exact .inl h2
  · exact .inr ⟨g, cap, cur, hv, hg, (hb.block g (hlt g (by rw [hv]; rfl))).trans hh, r⟩
theorem own_off {w w' : World} {base n size : Nat} {t : TypeId} {v : Value} {xs : List Value} {r : Option Nat} (h : w.ownsRow base t size v n xs) (hg : w.grownBy w' r) (hne : ∀ k, v.ownBlock = some k → r ≠ some k) : w'.ownsRow base t size v n xs := by
  refine ⟨h.1, ?_⟩
  rcases h.2 with h2 | ⟨g, cap, cur, hv, hb, hh, q⟩
  · exact .inl h2
  · have hk : v.ownBlock = some g := by rw [hv]; rfl
    refine .inr ⟨g, cap, cur, hv, hb, ?_, q⟩
    obtain ⟨_, _, _, _, h5⟩ := hg
    exact (h5 g (h.lt g hk).2 (fun e => hne g hk e.symm)).trans hh
theorem own_lift {w : World} {base base' n size : Nat} {t : TypeId} {v : Value} {xs : List Value} (h : w.ownsRow base t size v n xs) (hb : base' ≤ base) : w.ownsRow base' t size v n xs := by
  refine ⟨h.1, ?_⟩
  rcases h.2 with h2 | ⟨g, cap, cur, hv, hg, r⟩
  · exact .inl h2
  · exact .inr ⟨g, cap, cur, hv, Nat.le_trans hb hg, r⟩
theorem own_slc {w : World} {base n size : Nat} {t : TypeId} {v : Value} {xs : List Value} (h : w.ownsRow base t size v n xs) : ∃ A c, v = .slice A n c ∧ (A = none → c = 0) := by
  rcases h.2 with ⟨rfl, h0⟩ | ⟨g, cap, cur, rfl, _⟩
  · exact ⟨none, 0, by rw [h0], fun _ => rfl⟩
  · exact ⟨_, cap, rfl, fun e => by cases e⟩
/-- An own row, as bytes. -/
theorem own_reads {w : World} {base n c : Nat} {A : Option Addr} {bs : List UInt8} (h : w.ownsRow base 5 1 (.slice A n c) n (bs.map bv)) : Rd w w.heap.size A n bs := by
  obtain ⟨A', c', e, _, hr⟩ := own_any h
  injection e with e1 _ _
  subst e1
  exact hr
set_option maxHeartbeats 400000 in
theorem rfour_any (w : World) (A : Option Addr) (n c B : Nat) (b : List UInt8) (hr : Rd w B A n b) (hn : n ≤ 900000) :
    Calls Try.prog 19 #[.slice A n c] w fun e w' => ∃ A c, e = .returned (.slice A 4 c) ∧ (A = none → c = 0) ∧ w'.ownsRow w.heap.size 5 1 (.slice A 4 c) 4 ((sum4 b).map bv) ∧ Below w.heap.size w w' := by
  have HS := Lib.hid (refSum_any A n c B b w hr (by omega))
  obtain ⟨s, hs⟩ : ∃ s, moreN 0 b = s := ⟨_, rfl⟩
  have hs32 : s < 4294967296 := by rw [← hs]; exact moreN_lt _ _
  have HL := Lib.hid (rlow_any s 4 w (by omega) (by omega))
  have HE : Hid (lowB 4 s = sum4 b) := (show _ = _ by unfold sum4; rw [hs])
  rw [hs] at HS
  clear hr hs
  go_enter Try.func19, Try.ntmps19
  go_wp2_with fail
  refine HS.out.mono ?_
  rintro e w2 ⟨rfl, rfl⟩
  go_wp2_with fail
  refine HL.out.mono ?_
  rintro e w2 ⟨x, rfl, ho, hb⟩
  rw [HE.out] at ho
  obtain ⟨A', c', rfl, hA⟩ := own_slc ho
  have HF := Lib.hid (And.intro hA (And.intro ho hb))
  clear ho hb hA
  go_wp2
  go_ret
  exact ⟨_, _, rfl, HF.out⟩
theorem putT_parts (n : Nat) (l : List Rk) : putA n l.length ++ tagsB l ++ sum4 (tagsB l) = putT n l := by
  unfold putT wSum
  rw [List.drop_left' (putA_len n l.length)]
theorem putD_parts (n : Nat) (l : List Rk) (d : List (List UInt8)) : putT n l ++ d.flatten ++ sum4 d.flatten = putD n l d := by
  unfold putD wSum
  rw [List.drop_left' rfl]
theorem putA_parts (n k : Nat) : headB n k ++ sum4 (headB n k) = putA n k := by unfold putA wSum; rw [List.drop_zero]
theorem putB_parts (n : Nat) (l : List Rk) (d : List (List UInt8)) : putD n l d ++ sum4 (putD n l d) = imPutB n l d := by unfold imPutB wSum; rw [List.drop_zero]
theorem putD_len (n : Nat) (l : List Rk) (d : List (List UInt8)) : (putD n l d).length = 36 + 8 * l.length + d.flatten.length := by
  rw [← putD_parts, List.length_append, List.length_append, putT_len, sum4_len]; omega
theorem imPutB_len (n : Nat) (l : List Rk) (d : List (List UInt8)) : (imPutB n l d).length = 40 + 8 * l.length + d.flatten.length := by
  rw [← putB_parts, List.length_append, putD_len, sum4_len]; omega
theorem tagsB_tl (l : List Rk) (j : Nat) : (tagsB (l.take j)).length ≤ 8 * l.length := by rw [tagsB_len, List.length_take]; omega
end Go.Proofs.Yteomiekjcnpnlaa
