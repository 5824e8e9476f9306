/- Texts of mine, joined: Law09a, Ls, FirstM, Law09c, Law09f. -/
import Derived.Great.BuildSlice
import Derived.Test.YtdhlfhpgfdpjbaaM7

/- Layer 9's laws: the head (the document's example). -/
namespace Go.Proofs.Ytdhlfhpgfdpjbaa
open Go.RowKit

def up9L : List Bk := [⟨184, 32, false⟩, ⟨216, 32, true⟩, ⟨248, 32, false⟩]
theorem up9_tile : tile 184 up9L 280 := ⟨rfl, by decide, rfl, by decide, rfl, by decide, rfl⟩
theorem setAll_len {l : List Bk} {bs : List UInt8} {o e : Nat} (h : tile o l e) (he : e ≤ bs.length) : ∀ j, (setAll bs (l.take j)).length = bs.length := fun j => go (l.take j) bs (fun x hx => by
    have := (tile_mem l o e h).2 x (List.mem_of_mem_take hx); exact ⟨this.2.2.1, by omega⟩)
where go : ∀ (l : List Bk) (bs : List UInt8), (∀ x ∈ l, isSz (x.size : Int) = true ∧ x.off + x.size ≤ bs.length) → (setAll bs l).length = bs.length
  | [], _, _ => rfl
  | x :: r, bs, h => by
    have h1 := h x (List.mem_cons_self ..)
    have e := setT_length (bs := bs) h1.1 h1.2
    show (setAll (setT bs x) r).length = _
    rw [go r _ (fun y hy => by rw [e]; exact h y (List.mem_cons_of_mem _ hy)), e]
theorem setAll_next {l : List Bk} {bs : List UInt8} {o e j : Nat} {x : Bk} (h : tile o l e) (ho : 184 ≤ o) (ho2 : o % 16 = 8) (he : e ≤ bs.length) (hx : l[j]? = some x) :
    setB (setAll bs (l.take j)) (x.off : Int) (x.size : Int) x.used = some (setAll bs (l.take (j + 1))) ∧ x.off + x.size ≤ bs.length := by
  have hm := (tile_mem l o e h).2 x (List.mem_of_getElem? hx)
  have hnx : setAll bs (l.take (j + 1)) = setT (setAll bs (l.take j)) x := by
    unfold setAll
    rw [List.take_add_one, hx, List.foldl_append]
    rfl
  rw [hnx]
  exact ⟨setB_of _ x (by omega) (by omega) (by rw [setAll_len h he]; omega) hm.2.2.1, by omega⟩
/-- Zeros, with blocks set one behind the other: they stand, and all lists are empty. -/
theorem lists_set {l : List Bk} {n : Nat} (h : tile 184 l n) (hn : n ≤ 16384) : Lists (setAll (List.replicate n 0) l) l (fun _ => []) := by
  have hn0 := (tile_mem l 184 n h).1
  obtain ⟨a1, a2, _, a4⟩ := setAll_spec l (List.replicate n 0) 184 n (Nat.le_refl _) rfl h (by rw [List.length_replicate]; exact Nat.le_refl _)
  rw [List.length_replicate] at a1
  refine lists_none (by omega) (by omega) ⟨a2, tile_apart l 184 n h⟩ (fun p hp _ => ?_)
  rw [a4 p (.inl hp)]
  have := wordN_zeros [] n p (by omega)
  rwa [List.append_nil] at this

theorem up9_bytes : ∃ z o0 o1 o2 : List UInt8, List.replicate 280 (0 : UInt8) = z ∧ z.length = 280 ∧ setAll z up9L = o0 ∧ o0.length = 280 ∧ o1.length = 280 ∧ o2.length = 280 ∧ putB o0 184 = some o1 ∧ putB o1 248 = some o2 ∧ putB o2 216 = none ∧ allB o2 0 = some [248, 184] := by
  have h0 := lists_set up9_tile (by decide)
  have l0 := setAll_len (bs := List.replicate 280 0) up9_tile (by rw [List.length_replicate]; exact Nat.le_refl _) 3
  rw [List.length_replicate] at l0
  have c0 : classI ((32 : Nat) : Int) = ((0 : Nat) : Int) := by decide
  obtain ⟨o1, p1, h1, l1, _⟩ := h0.put (x := ⟨184, 32, false⟩) (by simp [up9L]) rfl c0 (by omega) (by simp)
  obtain ⟨o2, p2, h2, l2, _⟩ := h1.put (x := ⟨248, 32, false⟩) (by simp [up9L]) rfl c0 (by omega) (by simp [setL])
  have ha := h2.all (c := 0) (by omega) (by simp [setL])
  refine ⟨_, _, o1, o2, rfl, List.length_replicate, rfl, l0, l1.trans l0, l2.trans (l1.trans l0), p1, p2, ?_, by rw [ha]; rfl⟩
  have hg := h2.st.at_ ⟨216, 32, true⟩ (by simp [up9L])
  have hf : freeI o2 216 < 0 := by
    have e : getB o2 216 = some ⟨216, 32, true⟩ := hg
    unfold freeI
    rw [e]
    simp
  unfold putB
  dsimp only
  rw [if_pos hf]

set_option maxRecDepth 100000 in
set_option maxHeartbeats 4000000 in
theorem up9_any (HS : SetC) (HP : PutC) (HA : AllC) (w : World) :
    Calls Try.prog 4 #[] w fun e w' => e = .returned (.bool true) ∧ Below w.heap.size w w' := by
  obtain ⟨z, o0, o1, o2, hz, hzl, hset, l0, l1, l2, p1, p2, p3, pa⟩ := up9_bytes
  have HMK : ∀ W : World, (Instr.makeSlice 31 (.int .i64 280) (.int .i64 280)).run Try.prog W = .ok (.slice (some ⟨W.heap.size, 0, none⟩) 280 280) (W.alloc (.cells (rowB z) 5)) := run_mk0 280 (by omega) z hz
  have f1 : Fill (w.alloc (.cells (rowB z) 5)) w.heap.size 5 z := Fill.made w _ _
  have b1 : Below w.heap.size w (w.alloc (.cells (rowB z) 5)) := (Below.refl _ _).alloc (Nat.le_refl _) _
  have hm := arena_any (w.alloc (.cells (rowB z) 5)) 16 1024 (some ⟨w.heap.size, 0, none⟩) 280 z f1.reads (by omega) (by omega) (by omega) (by omega) (by omega)
  rw [hzl] at hm
  have HM := Lib.hid hm
  have HB1 := Lib.hid b1
  have HZL := Lib.hid hzl
  have HSET := Lib.hid hset
  have HLN := Lib.hid (And.intro l0 (And.intro l1 l2))
  have H1 := Lib.hid p1
  have H2 := Lib.hid p2
  have H3 := Lib.hid p3
  have H4 := Lib.hid pa
  have HS := Lib.hid HS
  have HP := Lib.hid HP
  have HA := Lib.hid HA
  clear hz hzl hset l0 l1 l2 p1 p2 p3 pa f1 b1 hm
  go_enter Try.func4, Try.ntmps4
  go_wp2_with fail
  refine HM.out.mono ?_
  rintro e w1 hmade
  obtain ⟨g, A, c, rfl, hst⟩ := St.made hmade
  have HST := Lib.hid hst
  have HBB := Lib.hid HB1.out
  clear hmade hst HM HMK HB1
  generalize w.alloc (.cells (rowB z) 5) = wb at *
  go_wp2
  go_loopw [2] (fun i wr => ∃ (j : Nat) (A : Option Addr) (c : Nat), i = .int .i64 (j : Int) ∧ j ≤ 3 ∧ St wb wr g 16 1024 A c (setAll z (up9L.take j)) []) (fun i _ => 3 - (intOf i).toNat)
  case atStart => exact ⟨0, A, c, rfl, by omega, HST.out⟩
  case round =>
    obtain ⟨j, A, c, rfl, hj, hst⟩ := hrel
    have hlen := setAll_len (bs := z) up9_tile (by rw [HZL.out]; exact Nat.le_refl _) j
    rw [HZL.out] at hlen
    rcases (show j = 0 ∨ j = 1 ∨ j = 2 ∨ j = 3 by omega) with rfl | rfl | rfl | rfl
    · have hset := (setAll_next (j := 0) (x := ⟨184, 32, false⟩) (bs := z) up9_tile (Nat.le_refl _) rfl (by rw [HZL.out]; exact Nat.le_refl _) rfl).1
      have HSt := Lib.hid (HS.out wr g 16 1024 c A _ 184 32 false _ hst.ar (by omega) (by rw [hlen]; omega) (by omega) (by omega) hset)
      have HST2 := Lib.hid hst
      clear hst hset hlen hj
      go_wp2_with fail
      refine HSt.out.mono ?_
      rintro e w5 ⟨rfl, hbe⟩
      obtain ⟨A5, c5, hst5⟩ := HST2.out.became hbe
      have HST5 := Lib.hid hst5
      clear hbe hst5 HST2 HSt
      dsimp only [errV]
      go_wp2
      go_roundw
      case rel => exact ⟨1, A5, c5, by go_num, by omega, HST5.out⟩
      case measure => simp [intOf]
    · have hset := (setAll_next (j := 1) (x := ⟨216, 32, true⟩) (bs := z) up9_tile (Nat.le_refl _) rfl (by rw [HZL.out]; exact Nat.le_refl _) rfl).1
      have HSt := Lib.hid (HS.out wr g 16 1024 c A _ 216 32 true _ hst.ar (by omega) (by rw [hlen]; omega) (by omega) (by omega) hset)
      have HST2 := Lib.hid hst
      clear hst hset hlen hj
      go_wp2_with fail
      refine HSt.out.mono ?_
      rintro e w5 ⟨rfl, hbe⟩
      obtain ⟨A5, c5, hst5⟩ := HST2.out.became hbe
      have HST5 := Lib.hid hst5
      clear hbe hst5 HST2 HSt
      dsimp only [errV]
      go_wp2
      go_roundw
      case rel => exact ⟨2, A5, c5, by go_num, by omega, HST5.out⟩
      case measure => simp [intOf]
    · have hset := (setAll_next (j := 2) (x := ⟨248, 32, false⟩) (bs := z) up9_tile (Nat.le_refl _) rfl (by rw [HZL.out]; exact Nat.le_refl _) rfl).1
      have HSt := Lib.hid (HS.out wr g 16 1024 c A _ 248 32 false _ hst.ar (by omega) (by rw [hlen]; omega) (by omega) (by omega) hset)
      have HST2 := Lib.hid hst
      clear hst hset hlen hj
      go_wp2_with fail
      refine HSt.out.mono ?_
      rintro e w5 ⟨rfl, hbe⟩
      obtain ⟨A5, c5, hst5⟩ := HST2.out.became hbe
      have HST5 := Lib.hid hst5
      clear hbe hst5 HST2 HSt
      dsimp only [errV]
      go_wp2
      go_roundw
      case rel => exact ⟨3, A5, c5, by go_num, by omega, HST5.out⟩
      case measure => simp [intOf]
    · rw [show up9L.take 3 = up9L from rfl, HSET.out] at hst
      have HPut := Lib.hid (HP.out wr g 16 1024 c A o0 184 _ hst.ar (by omega) (by rw [HLN.out.1]; omega) (by omega) H1.out)
      have HST3 := Lib.hid hst
      clear hst hlen hj
      go_wp2_with fail
      refine HPut.out.mono ?_
      rintro e w5 ⟨rfl, hbe⟩
      obtain ⟨A5, c5, hst5⟩ := HST3.out.became hbe
      have HPut2 := Lib.hid (HP.out w5 g 16 1024 c5 A5 o1 248 _ hst5.ar (by omega) (by rw [HLN.out.2.1]; omega) (by omega) H2.out)
      have HST5 := Lib.hid hst5
      clear hbe hst5 HST3 HPut
      dsimp only [errV]
      go_wp2_with fail
      refine HPut2.out.mono ?_
      rintro e w6 ⟨rfl, hbe⟩
      obtain ⟨A6, c6, hst6⟩ := HST5.out.became hbe
      have HPut3 := Lib.hid (HP.out w6 g 16 1024 c6 A6 o2 216 _ hst6.ar (by omega) (by rw [HLN.out.2.2]; omega) (by omega) H3.out)
      have HST6 := Lib.hid hst6
      clear hbe hst6 HST5 HPut2
      dsimp only [errV]
      go_wp2_with fail
      refine HPut3.out.mono ?_
      rintro e w7 ⟨rfl, hb⟩
      have hst7 := HST6.out.below hb
      have HAll := Lib.hid (HA.out w7 g 16 1024 c6 A6 o2 0 _ hst7.ar (by omega) (by rw [HLN.out.2.2]; omega) (by omega) H4.out)
      have HST7 := Lib.hid hst7
      clear hb hst7 HST6 HPut3
      dsimp only [errV]
      go_wp2_with fail
      refine HAll.out.mono ?_
      rintro e w8 ⟨A8, c8, rfl, hown, hb⟩
      dsimp only [Option.getD, Option.isSome, errV, List.length_cons, List.length_nil] at hown ⊢
      have HST8 := Lib.hid (HST7.out.below hb)
      have HI8 := Lib.hid (own_ints (l := [248, 184]) hown rfl)
      clear hb hown HST7 HAll
      go_wp2_with fail
      refine (code_err w8 3 (by omega) (by omega)).mono ?_
      rintro e w9 ⟨rfl, rfl⟩
      have hrow : IRd (w8.alloc (.cells #[.int .i64 248, .int .i64 184] 3)) (w8.alloc (.cells #[.int .i64 248, .int .i64 184] 3)).heap.size (some ⟨w8.heap.size, 0, none⟩) (nats [248, 184]) := fun _ => ⟨w8.heap.size, 0, rfl, heap_lt (heap_alloc_new w8 _), fun j x hx => by
        rw [Nat.zero_add, cell_of_row _ _ j _ _ (0, 0) (heap_alloc_new w8 _)]
        match j, hx with
        | 0, hx => simp [nats] at hx; subst hx; rfl
        | 1, hx => simp [nats] at hx; subst hx; rfl⟩
      have hsm := ints_same (w8.alloc (.cells #[.int .i64 248, .int .i64 184] 3)) A8 (some ⟨w8.heap.size, 0, none⟩) c8 2 (nats [248, 184]) ((HI8.out.below ((Below.refl _ _).alloc (Nat.le_refl _) _)).more ((Below.refl w8.heap.size w8).alloc (Nat.le_refl _) _).size) hrow (by decide)
      have HSM := Lib.hid hsm
      have HBN := Lib.hid ((HST8.out.alloc (.cells #[.int .i64 248, .int .i64 184] 3)).bel)
      clear hsm hrow
      go_wp2_with fail
      refine HSM.out.mono ?_
      rintro e w10 ⟨rfl, hb⟩
      have HK := Lib.hid (HBB.out.trans ((HBN.out.trans (hb.mono HBN.out.size)).mono HBB.out.size))
      clear hb HSM
      go_wp2
      go_ret
      exact ⟨rfl, HK.out⟩
end Go.Proofs.Ytdhlfhpgfdpjbaa

/- A row of lists of numbers in memory, beside an arena and a row of bools: how it stands in the walk of ListFirst. -/
namespace Go.Proofs.Ytdhlfhpgfdpjbaa
open Go.RowKit

/-- Numbers in a row that is none of the blocks of S. -/
def Rw (S : Nat → Prop) (w : World) (A : Option Addr) (l : List Nat) : Prop := 0 < l.length → ∃ b o, A = some ⟨b, o, none⟩ ∧ b < w.heap.size ∧ ¬ S b ∧ ∀ (j x : Nat), l[j]? = some x → w.cell? ⟨b, o + j, none⟩ = some (.int .i64 (x : Int))
/-- A row of 22 lists. -/
structure Ls (S : Nat → Prop) (w : World) (gl : Nat) (L : Nat → List Nat) (cs : List Value) : Prop where
  len : cs.length = 22
  row : w.heap[gl]? = some (.cells cs.toArray 22 (0, 0))
  at_ : ∀ d, d < 22 → ∃ A c, cs[d]? = some (.slice A (L d).length c) ∧ (A = none → c = 0) ∧ Rw S w A (L d)

section
variable {S S' : Nat → Prop} {w w' : World} {gl : Nat} {L : Nat → List Nat} {cs : List Value} {A : Option Addr} {l : List Nat}
theorem Rw.nil (h : l = []) : Rw S w A l := fun h0 => by subst h; exact absurd h0 (by simp)
theorem Rw.keep (h : Rw S w A l) (hz : w.heap.size ≤ w'.heap.size) (hk : ∀ k, k < w.heap.size → ¬ S k → w'.heap[k]? = w.heap[k]? ∧ ¬ S' k) : Rw S' w' A l := fun h0 => by
  obtain ⟨b, o, e, hb, hn, hc⟩ := h h0
  obtain ⟨k1, k2⟩ := hk b hb hn
  exact ⟨b, o, e, Nat.lt_of_lt_of_le hb hz, k2, fun j x hx => (World.cell?_of_block (w := w) (a := ⟨b, o + j, none⟩) k1).trans (hc j x hx)⟩
theorem Rw.reads (h : Rw S w A l) : IRd w w.heap.size A (nats l) := fun h0 => by
  obtain ⟨b, o, e, hb, _, hc⟩ := h (by simpa [nats] using h0)
  refine ⟨b, o, e, hb, fun j x hx => ?_⟩
  rw [nats, List.getElem?_map] at hx
  cases hl : l[j]? with
  | none => rw [hl] at hx; cases hx
  | some y => rw [hl] at hx; injection hx with hx; rw [← hx]; exact hc j y hl
theorem Ls.keep (h : Ls S w gl L cs) (hz : w.heap.size ≤ w'.heap.size) (hg : w'.heap[gl]? = w.heap[gl]?) (hk : ∀ k, k < w.heap.size → ¬ S k → w'.heap[k]? = w.heap[k]? ∧ ¬ S' k) : Ls S' w' gl L cs :=
  ⟨h.len, hg.trans h.row, fun d hd => by obtain ⟨A, c, e, n, r⟩ := h.at_ d hd; exact ⟨A, c, e, n, r.keep hz hk⟩⟩
theorem Ls.cell (h : Ls S w gl L cs) {d : Nat} (hd : d < 22) : ∃ A c, w.cell? ⟨gl, d, none⟩ = some (.slice A (L d).length c) ∧ (A = none → c = 0) ∧ Rw S w A (L d) := by
  obtain ⟨A, c, e, n, r⟩ := h.at_ d hd
  refine ⟨A, c, ?_, n, r⟩
  rw [cell_of_row w gl d _ _ (0, 0) h.row]
  simpa using e
theorem Ls.set (h : Ls S w gl L cs) (hS : S gl) {d : Nat} (hd : d < 22) {A1 : Option Addr} {c1 : Nat} {l1 : List Nat} (hA1 : A1 = none → c1 = 0) (hr : Rw S w A1 l1) :
    Ls S (w.setCell ⟨gl, d, none⟩ (.slice A1 l1.length c1)) gl (setL L d l1) (cs.set d (.slice A1 l1.length c1)) := by
  have hz : w.heap.size ≤ (w.setCell ⟨gl, d, none⟩ (.slice A1 l1.length c1)).heap.size := by simp [World.setCell]
  have hk : ∀ k, k < w.heap.size → ¬ S k → (w.setCell ⟨gl, d, none⟩ (.slice A1 l1.length c1)).heap[k]? = w.heap[k]? ∧ ¬ S k := fun k _ hn => ⟨Below.heap_setCell w ⟨gl, d, none⟩ _ k (fun e => hn (e ▸ hS)), hn⟩
  refine ⟨by rw [List.length_set]; exact h.len, ?_, fun e he => ?_⟩
  · have := heap_setCell_same w gl d _ _ (.slice A1 l1.length c1) h.row
    rw [this]
    simp
  · by_cases hed : e = d
    · subst hed
      refine ⟨A1, c1, ?_, hA1, ?_⟩
      · rw [List.getElem?_set_self (by rw [h.len]; exact hd)]
        simp [setL]
      · have e2 : setL L e l1 e = l1 := by simp [setL]
        rw [e2]; exact hr.keep hz hk
    · obtain ⟨A, c, e1, n1, r⟩ := h.at_ e he
      have e2 : setL L d l1 e = L e := by simp [setL, hed]
      refine ⟨A, c, ?_, n1, ?_⟩
      · rw [List.getElem?_set_ne (fun h => hed h.symm), e2]; exact e1
      · rw [e2]; exact r.keep hz hk
end

/-- The arena's blocks, the row of lists, the row of bools. -/
def Sx (g : Nat) (A : Option Addr) (gl gi : Nat) (k : Nat) : Prop := k = gl ∨ k = gi ∨ foot g A k
/-- How all stands in ListFirst's great loop. -/
structure Lf (wB W : World) (g : Nat) (A : Option Addr) (c : Nat) (bs : List UInt8) (gl gi : Nat) (L : Nat → List Nat) (cs : List Value) (inn : List Bool) : Prop where
  st : St wB W g 32 16384 A c bs []
  ls : Ls (Sx g A gl gi) W gl L cs
  ir : W.heap[gi]? = some (.cells (inn.map Value.bool).toArray 4 (0, 0))
  nl : ¬ foot g A gl
  ni : ¬ foot g A gi
  ne : gl ≠ gi
  lB : wB.heap.size ≤ gl
  iB : wB.heap.size ≤ gi

section
variable {wB W W' : World} {g c gl gi : Nat} {A : Option Addr} {bs : List UInt8} {L : Nat → List Nat} {cs : List Value} {inn : List Bool}
theorem Lf.below (h : Lf wB W g A c bs gl gi L cs inn) (hb : Below W.heap.size W W') : Lf wB W' g A c bs gl gi L cs inn :=
  ⟨h.st.below hb, h.ls.keep hb.size (hb.block gl (heap_lt h.ls.row)) (fun k hk hn => ⟨hb.block k hk, hn⟩), (hb.block gi (heap_lt h.ir)).trans h.ir, h.nl, h.ni, h.ne, h.lB, h.iB⟩
theorem Lf.became {out : List UInt8} (h : Lf wB W g A c bs gl gi L cs inn) (hb : Became 60 g 32 16384 A out W W') : ∃ A' c', Lf wB W' g A' c' out gl gi L cs inn := by
  obtain ⟨A', c', har, ht, hA⟩ := hb
  have hnf : ∀ k, k < W.heap.size → ¬ foot g A k → ¬ foot g A' k := fun k hk hn hf => by
    rcases hf with rfl | ⟨a, e, rfl⟩
    · exact hn (.inl rfl)
    · rcases hA with hA | hA
      · exact hn (.inr ⟨a, hA ▸ e, rfl⟩)
      · have := hA a e; omega
  have hgl := heap_lt h.ls.row
  have hgi := heap_lt h.ir
  have hbl : Below wB.heap.size W W' := ht.below (fun k hk => by
    rcases hk with rfl | ⟨a, e, rfl⟩
    · exact h.st.gB
    · exact h.st.aB a e) h.st.size
  refine ⟨A', c', ⟨h.st.bel.trans hbl, har, h.st.gB, fun a ha => ?_, fun p hp => by cases hp⟩, h.ls.keep ht.size (ht.block gl hgl h.nl) (fun k hk hn => ?_), (ht.block gi hgi h.ni).trans h.ir, hnf gl hgl h.nl, hnf gi hgi h.ni, h.ne, h.lB, h.iB⟩
  · rcases hA with hA | hA
    · exact h.st.aB a (hA ▸ ha)
    · exact Nat.le_trans h.st.size (hA a ha)
  · refine ⟨ht.block k hk (fun hf => hn (.inr (.inr hf))), fun hs => ?_⟩
    rcases hs with e | e | hf
    · exact hn (.inl e)
    · exact hn (.inr (.inl e))
    · exact hnf k hk (fun h' => hn (.inr (.inr h'))) hf
theorem St.setB (h : St wB W g 32 16384 A c bs []) {k : Nat} (hk : ¬ foot g A k) (hB : wB.heap.size ≤ k) (i : Nat) (u : Value) : St wB (W.setCell ⟨k, i, none⟩ u) g 32 16384 A c bs [] :=
  ⟨h.bel.setCell (p := ⟨k, i, none⟩) hB u, h.ar.keep fun j hj => Below.heap_setCell W ⟨k, i, none⟩ u j (fun e => hk (by subst e; exact hj)), h.gB, h.aB, fun p hp => by cases hp⟩
theorem Lf.mark (h : Lf wB W g A c bs gl gi L cs inn) (k : Nat) (b : Bool) : Lf wB (W.setCell ⟨gi, k, none⟩ (.bool b)) g A c bs gl gi L cs (inn.set k b) := by
  refine ⟨h.st.setB h.ni h.iB k _, h.ls.keep (by simp [World.setCell]) (Below.heap_setCell W ⟨gi, k, none⟩ _ gl h.ne) (fun j _ hn => ⟨Below.heap_setCell W ⟨gi, k, none⟩ _ j (fun e => hn (.inr (.inl e))), hn⟩), ?_, h.nl, h.ni, h.ne, h.lB, h.iB⟩
  have := heap_setCell_same W gi k _ _ (.bool b) h.ir
  rw [this, List.map_set]
  simp
theorem Lf.put (h : Lf wB W g A c bs gl gi L cs inn) {d : Nat} (hd : d < 22) {A1 : Option Addr} {c1 : Nat} {l1 : List Nat} (hA1 : A1 = none → c1 = 0) (hr : Rw (Sx g A gl gi) W A1 l1) :
    Lf wB (W.setCell ⟨gl, d, none⟩ (.slice A1 l1.length c1)) g A c bs gl gi (setL L d l1) (cs.set d (.slice A1 l1.length c1)) inn :=
  ⟨h.st.setB h.nl h.lB d _, h.ls.set (.inl rfl) hd hA1 hr, (Below.heap_setCell W ⟨gl, d, none⟩ _ gi (fun e => h.ne e.symm)).trans h.ir, h.nl, h.ni, h.ne, h.lB, h.iB⟩
/-- A row of this call's own, made since W, is none of those. -/
theorem Lf.fresh (h : Lf wB W g A c bs gl gi L cs inn) {k : Nat} (hk : W.heap.size ≤ k) : ¬ Sx g A gl gi k := fun hs => by
  rcases hs with rfl | rfl | hf
  · have := heap_lt h.ls.row; omega
  · have := heap_lt h.ir; omega
  · have := h.st.ar.foot_lt hf; omega
theorem Lf.bool (h : Lf wB W g A c bs gl gi L cs inn) {k : Nat} {b : Bool} (hk : inn[k]? = some b) : W.cell? ⟨gi, k, none⟩ = some (.bool b) := by
  rw [cell_of_row W gi k _ _ (0, 0) h.ir]
  simp [hk]
end
end Go.Proofs.Ytdhlfhpgfdpjbaa

/- Free blocks parted by used ones, and which of them are in their lists: ListFirst's plain part. No program in sight. -/
namespace Go.Proofs.Ytdhlfhpgfdpjbaa

/-- Each with a used one of 32 bytes behind it. -/
def inter : List Bk → List Bk
  | [] => []
  | x :: r => x :: ⟨x.off + x.size, 32, true⟩ :: inter r
theorem inter_snoc (l : List Bk) (x : Bk) : inter (l ++ [x]) = (inter l ++ [x]) ++ [⟨x.off + x.size, 32, true⟩] := by
  induction l with
  | nil => rfl
  | cons y r ih => simp [inter, ih]
theorem inter_len (l : List Bk) : (inter l).length = 2 * l.length := by
  induction l with
  | nil => rfl
  | cons y r ih => simp [inter, ih]; omega
theorem inter_get : ∀ (l : List Bk) (j : Nat) (x : Bk), l[j]? = some x → (inter l)[2 * j]? = some x ∧ (inter l)[2 * j + 1]? = some ⟨x.off + x.size, 32, true⟩
  | [], j, x, h => by simp at h
  | y :: r, 0, x, h => by
    simp at h; subst h
    exact ⟨rfl, rfl⟩
  | y :: r, j + 1, x, h => by
    have ih := inter_get r j x (by simpa using h)
    have e : 2 * (j + 1) = 2 * j + 1 + 1 := by omega
    rw [e]
    exact ⟨by simpa [inter] using ih.1, by simpa [inter] using ih.2⟩
theorem inter_mem {l : List Bk} {x : Bk} (h : x ∈ l) : x ∈ inter l := by
  obtain ⟨j, hj⟩ := List.getElem?_of_mem h
  exact List.mem_of_getElem? (inter_get l j x hj).1
theorem inter_sub (l : List Bk) : l.Sublist (inter l) := by
  induction l with
  | nil => exact List.Sublist.slnil
  | cons y r ih => exact (ih.cons _).cons_cons y
theorem inter_ne {l : List Bk} {e : Nat} (h : tile 184 (inter l) e) {j k : Nat} {x y : Bk} (hj : l[j]? = some x) (hk : l[k]? = some y) (hne : j ≠ k) : x.off ≠ y.off := by
  have hp := (tile_ne (inter l) 184 e h).sublist (inter_sub l)
  rw [List.pairwise_iff_getElem] at hp
  obtain ⟨j1, rfl⟩ := List.getElem?_eq_some_iff.1 hj
  obtain ⟨k1, rfl⟩ := List.getElem?_eq_some_iff.1 hk
  rcases Nat.lt_or_gt_of_ne hne with h1 | h1
  · exact hp j k j1 k1 h1
  · exact fun e => hp k j k1 j1 h1 e.symm

/-- Which are in their lists. -/
def InL (fr : List Bk) (inn : List Bool) (L : Nat → List Nat) : Prop := ∀ (k : Nat) (x : Bk) (c : Nat), fr[k]? = some x → classI (x.size : Int) = (c : Int) → (inn[k]? = some true ↔ x.off ∈ L c)
section
variable {fr : List Bk} {inn : List Bool} {L : Nat → List Nat} {e k c : Nat} {x : Bk}
theorem InL.put (h : InL fr inn L) (ht : tile 184 (inter fr) e) (hx : fr[k]? = some x) (hc : classI (x.size : Int) = (c : Int)) (hk : k < inn.length) : InL fr (inn.set k true) (setL L c (x.off :: L c)) := fun j y d hy hd => by
  by_cases hjk : j = k
  · subst hjk
    obtain rfl : y = x := Option.some.inj (hy.symm.trans hx)
    obtain rfl : d = c := by omega
    rw [List.getElem?_set_self hk]
    simp [setL]
  · have hne := inter_ne ht hy hx hjk
    rw [List.getElem?_set_ne (fun h => hjk h.symm), h j y d hy hd]
    unfold setL
    split
    · rename_i e; subst e; simp [hne]
    · exact Iff.rfl
theorem InL.take (h : InL fr inn L) (ht : tile 184 (inter fr) e) (hx : fr[k]? = some x) (hc : classI (x.size : Int) = (c : Int)) (hk : k < inn.length) : InL fr (inn.set k false) (setL L c ((L c).filter fun q => decide (q ≠ x.off))) := fun j y d hy hd => by
  by_cases hjk : j = k
  · subst hjk
    obtain rfl : y = x := Option.some.inj (hy.symm.trans hx)
    obtain rfl : d = c := by omega
    rw [List.getElem?_set_self hk]
    simp [setL]
  · have hne := inter_ne ht hy hx hjk
    rw [List.getElem?_set_ne (fun h => hjk h.symm), h j y d hy hd]
    unfold setL
    split
    · rename_i e; subst e; simp [hne]
    · exact Iff.rfl
end
theorem setL_len {L : Nat → List Nat} {c n m : Nat} {l : List Nat} (h : ∀ d, (L d).length ≤ n) (hl : l.length ≤ m) (hm : n ≤ m) : ∀ d, (setL L c l d).length ≤ m := fun d => by
  unfold setL
  split
  · exact hl
  · exact Nat.le_trans (h d) hm
end Go.Proofs.Ytdhlfhpgfdpjbaa

/- The walk of ListFirst. -/
namespace Go.Proofs.Ytdhlfhpgfdpjbaa
open Go.RowKit

theorem bool_infb : (Try.prog.info? 4).map (fun i => (i.zero, i.size, i.bytes)) = some (some (.bool false), 1, 1) := by kernel_rfl
theorem sl_infb : (Try.prog.info? 22).map (fun i => (i.zero, i.size, i.bytes)) = some (some (.slice none 0 0), 1, 24) := by kernel_rfl
theorem made_one (z : Value) (n : Nat) : madeCells #[z] n = (List.replicate n z).toArray := by
  apply Array.ext
  · simp [madeCells]
  · intro i h1 h2
    simp [madeCells, Nat.mod_one]
theorem mk_bools (n : Nat) (hn : n ≤ 1000) (W : World) : (Instr.makeSlice 36 (.int .i64 (n : Int)) (.int .i64 (n : Int))).run Try.prog W = .ok (.slice (some ⟨W.heap.size, 0, none⟩) n n) (W.alloc (.cells ((List.replicate n false).map Value.bool).toArray 4)) := by
  have h := run_make_row' (P := Try.prog) 36 4 (.bool false) 1 Try.underlying36 bool_infb rfl .i64 .i64 n (by omega) (by omega) W
  rw [h, made_one, List.map_replicate]
theorem mk_sls (W : World) : (Instr.makeSlice 35 (.int .i64 22) (.int .i64 22)).run Try.prog W = .ok (.slice (some ⟨W.heap.size, 0, none⟩) 22 22) (W.alloc (.cells (List.replicate 22 (Value.slice none 0 0)).toArray 22)) := by
  have h := run_make_row' (P := Try.prog) 35 22 (.slice none 0 0) 24 Try.underlying35 sl_infb rfl .i64 .i64 22 (by omega) (by omega) W
  rw [made_one] at h
  exact h

theorem run_one_int (w : World) (x : Int) : (Instr.buildSlice 22 1 #[(0, .int .i64 x)]).run Try.prog w = .ok (.slice (some ⟨w.heap.size, 0, none⟩) 1 1) (w.alloc (.cells #[.int .i64 x] 3)) := by
  obtain ⟨i0, hi, hz0, hz1, hz2⟩ := info_parts int_inf
  refine run_buildSlice w 22 3 1 _ _ i0 _ Try.underlying22 hi hz0 (by omega) (by omega) ?_
  rw [hz1]
  have e : Array.range (1 * 1) = #[0] := by decide
  rw [e]
  simp [Instr.fill, Value.cells]
theorem iv_one (l : List Nat) : ∀ u ∈ l.map iV, u.oneCell' = true := by
  intro u hu
  obtain ⟨x, _, rfl⟩ := List.mem_map.1 hu
  rfl
theorem rw_cells {S : Nat → Prop} {w : World} {ad : Addr} {l : List Nat} (h : Rw S w (some ad) l) : ∀ j u, (l.map iV)[j]? = some u → w.cell? (ad.add j) = some u := by
  intro j u hu
  rw [List.getElem?_map, Option.map_eq_some_iff] at hu
  obtain ⟨x, hx, rfl⟩ := hu
  have hj : j < l.length := by
    rcases Nat.lt_or_ge j l.length with h1 | h1
    · exact h1
    · rw [List.getElem?_eq_none h1] at hx; cases hx
  obtain ⟨b, off, e, _, _, hc⟩ := h (by omega)
  cases e
  have e : (⟨b, off, none⟩ : Addr).add j = ⟨b, off + j, none⟩ := by unfold Addr.add; split <;> simp_all
  rw [e]
  exact hc j x hx
theorem own_one (w : World) (x : Nat) : (w.alloc (.cells #[.int .i64 (x : Int)] 3)).ownsRow w.heap.size 3 1 (.slice (some ⟨w.heap.size, 0, none⟩) 1 1) 1 ([x].map iV) :=
  ⟨rfl, .inr ⟨w.heap.size, 1, _, rfl, Nat.le_refl _, heap_alloc_new w _, Nat.le_refl _, by unfold maxLen; omega, rfl, rfl⟩⟩
theorem nats_len (l : List Nat) : (nats l).length = l.length := by simp [nats]
/-- append(own, src...) for numbers. -/
theorem append_ints {ops : Array Oper} {rest : List Oper} {o : Oper} {a : Act} {w : World} {Q : Exit → Act → World → Prop} (hgd : o.guard = none) (s x : Operand) (ho : o.op = .call { callee := .builtin .append, args := #[s, x], argTypes := #[22, 22] })
    (base : Nat) (v : Value) (n : Nat) (bs : List Nat) (hs : a.eval s = v) (hown : w.ownsRow base 3 1 v n (bs.map iV))
    (S : Nat → Prop) (A : Option Addr) (c : Nat) (cs : List Nat) (hx : a.eval x = .slice A cs.length c) (hr : Rw S w A cs) (hA : A = none → c = 0)
    (hb : n + cs.length ≤ 1000000) (hbase : base ≤ w.heap.size)
    (h : ∀ v' w', w'.ownsRow base 3 1 v' (n + cs.length) ((bs ++ cs).map iV) → w.grownBy w' v.ownBlock → wpList Try.prog ops Q rest (a.put o.dst v') w') : wpList Try.prog ops Q (o :: rest) a w := by
  obtain ⟨i0, hi, hz0, hz1, hz2⟩ := info_parts int_inf
  rcases A with _ | ad
  · obtain rfl := hA rfl
    have hm : cs.length = 0 := by
      rcases Nat.eq_zero_or_pos cs.length with h0 | h0
      · exact h0
      · obtain ⟨_, _, e1, _⟩ := hr h0
        cases e1
    obtain rfl : cs = [] := List.eq_nil_of_length_eq_zero hm
    refine wpList_append_own_none hgd s x 22 ho base 3 i0 1 Try.underlying22 hi v n _ hs hown hx ?_
    exact h v w (by simpa using hown) (World.grownBy.refl w _)
  · refine wpList_append_own w hgd s x 22 ho base 3 i0 (.int .i64 0) 1 8 Try.underlying22 hi hz0 hz1 hz2 rfl (by decide) v n _ hs hown ad cs.length c (cs.map iV) hx (by simp) (rw_cells hr) (iv_one cs) (by unfold maxLen; omega) (by omega) hbase ?_
    intro v' w' h1 h2 _
    exact h v' w' (by simpa using h1) h2
/-- A row of this call's own is none of what was there. -/
theorem rw_own {S : Nat → Prop} {w : World} {base n : Nat} {A : Option Addr} {c : Nat} {l : List Nat} (h : w.ownsRow base 3 1 (.slice A n c) n (l.map iV)) (hn : n = l.length) (hS : ∀ k, base ≤ k → ¬ S k) : Rw S w A l ∧ (A = none → c = 0) := by
  refine ⟨fun h0 => ?_, fun e => ?_⟩
  · rcases h.2 with ⟨_, h0'⟩ | ⟨g, _, _, h', _⟩
    · omega
    · injection h' with e
      subst e
      refine ⟨g, 0, rfl, (h.lt g rfl).2, hS g (h.lt g rfl).1, fun j x hx => ?_⟩
      have hj : j < l.length := by
        rcases Nat.lt_or_ge j l.length with h | h
        · exact h
        · rw [List.getElem?_eq_none h] at hx; cases hx
      rw [Nat.zero_add, h.cellAt j (by omega), List.getElem?_map, hx]
      rfl
  · subst e
    rcases h.2 with ⟨h', _⟩ | ⟨_, _, _, h', _⟩
    · injection h' with _ _ e
    · injection h' with e; cases e
end Go.Proofs.Ytdhlfhpgfdpjbaa


/- The walk of ListFirst: all of it. -/
namespace Go.Proofs.Ytdhlfhpgfdpjbaa
open Go.RowKit

set_option maxRecDepth 100000 in
set_option maxHeartbeats 16000000 in
theorem lf_main (HS : SetC) (HP : PutC) (HT : TakeC) (HA : AllC) (w : World) (A0 : Option Addr) (k0 : Nat) (ls : List Int) (hI0 : IRd w w.heap.size A0 ls) (hls : ls.length ≤ 20) (A1 : Option Addr) (k1 : Nat) (os : List Int) (hI1 : IRd w w.heap.size A1 os) (hos : os.length ≤ 40) (A2 : Option Addr) (k2 : Nat) (ts : List Int) (hI2 : IRd w w.heap.size A2 ts) (hts : ts.length ≤ 40) :
    Calls Try.prog 3 #[.slice A0 ls.length k0, .slice A1 os.length k1, .slice A2 ts.length k2] w fun e w' => e = .returned (.bool true) ∧ Below w.heap.size w w' := by
  obtain ⟨sl, hsl⟩ : ∃ sl, ls.length = sl := ⟨_, rfl⟩
  obtain ⟨ol, hol⟩ : ∃ ol, os.length = ol := ⟨_, rfl⟩
  obtain ⟨tl, htl⟩ : ∃ tl, ts.length = tl := ⟨_, rfl⟩
  rw [hsl, hol, htl]
  rw [hsl] at hls
  rw [hol] at hos
  rw [htl] at hts
  have s0 : decide ((20 : Int) < (sl : Int)) = false := decide_eq_false (by omega)
  have s1 : decide ((40 : Int) < (ol : Int)) = false := decide_eq_false (by omega)
  have s2 : decide ((40 : Int) < (tl : Int)) = false := decide_eq_false (by omega)
  obtain ⟨i0, hi, hz0, hz1, hz2⟩ := info_parts bk_inf
  obtain ⟨B0, hB0⟩ : ∃ B0, w.heap.size = B0 := ⟨_, rfl⟩
  have HB0 := Lib.hid hB0
  have HSL := Lib.hid hsl
  have HOL := Lib.hid hol
  have HTL := Lib.hid htl
  have HI0 := Lib.hid hI0
  have HI1 := Lib.hid hI1
  have HI2 := Lib.hid hI2
  have HLS := Lib.hid (And.intro hls (And.intro hos hts))
  have HS := Lib.hid HS
  have HP := Lib.hid HP
  have HT := Lib.hid HT
  have HA := Lib.hid HA
  have HUP := Lib.hid (up9_any HS.out HP.out HA.out)
  clear hsl hol htl hI0 hI1 hI2 hB0
  go_enter Try.func3, Try.ntmps3
  go_wp2_with fail
  refine (HUP.out _).mono ?_
  rintro e w1 ⟨rfl, hb⟩
  have HB1 : Hid (Below B0 w w1) := by rw [← HB0.out]; exact hb
  clear HUP hb
  go_wp2
  clear s0 s1 s2
  go_loopw [8, 9, 10] (fun q t i wr => ∃ (j : Nat) (l : List Bk) (p : Nat), i = .int .i64 (j : Int) ∧ t = .int .i64 (p : Int) ∧ j ≤ sl ∧ l.length = j ∧ tile 184 (inter l) p ∧ (∀ x ∈ l, x.used = false) ∧ p ≤ 184 + 368 * j ∧ wr.ownsRow B0 27 3 q j (flatK l) ∧ Below B0 w wr) (fun _ _ i _ => sl - (intOf i).toNat)
  case atStart => exact ⟨0, [], 184, rfl, rfl, Nat.zero_le _, rfl, rfl, (fun x hx => by cases hx), Nat.le_refl _, World.ownsRow_nil _ _ _ _, HB1.out⟩
  case round =>
    obtain ⟨j, l, p, rfl, rfl, hj, hlj, htl, huf, hp, hown, hb⟩ := hrel
    obtain ⟨A7, c7, rfl⟩ := own_sl hown
    have hBw : B0 ≤ wr.heap.size := by have := hb.size; have := HB0.out; omega
    by_cases hlt : j < sl
    · obtain ⟨z, hz⟩ : ∃ z, ls[j]? = some z := ⟨ls[j]'(by rw [HSL.out]; exact hlt), List.getElem?_eq_getElem _⟩
      obtain ⟨b1, o1, rfl, _, hc1⟩ := (HI0.out.below (by rw [HB0.out]; exact hb)) (by rw [HSL.out]; omega)
      have q1 := hc1 j z hz
      have hji : (j : Int) < (sl : Int) := by omega
      obtain ⟨pk, hpk⟩ : ∃ pk, (z % ((20 : Nat) : Int)).toNat = pk := ⟨_, rfl⟩
      have hpk1 : pk < 20 := by have := Int.emod_nonneg z (b := ((20 : Nat) : Int)) (by omega); have := Int.emod_lt_of_pos z (b := ((20 : Nat) : Int)) (by omega); omega
      have HPK : Hid (∀ W, Calls Try.prog 5 #[.int .i64 z, .int .i64 20] W fun e w' => e = .returned (.int .i64 (pk : Int)) ∧ W = w') := fun W => lpick_any z 20 W (by omega) (by omega) pk hpk
      obtain ⟨s, hs⟩ : ∃ s, 32 + 16 * pk = s := ⟨_, rfl⟩
      have hs1 : 32 + 16 * (pk : Int) = (s : Int) := by omega
      have hsz : isSz (s : Int) = true := by rw [isSz_iff]; omega
      have hs2 : s ≤ 336 := by omega
      have hpb : p ≤ 8000 := by omega
      have htl' : tile 184 (inter (l ++ [⟨p, s, false⟩])) (p + s + 32) := by
        rw [inter_snoc]
        exact tile_snoc _ 184 (p + s) ⟨p + s, 32, true⟩ (tile_snoc (inter l) 184 p ⟨p, s, false⟩ htl rfl hsz) rfl (show isSz ((32 : Nat) : Int) = true by decide)
      have huf' : ∀ x ∈ l ++ [⟨p, s, false⟩], x.used = false := fun x hx => by
        rcases List.mem_append.1 hx with hx | hx
        · exact huf x hx
        · rw [List.mem_singleton] at hx; subst hx; rfl
      have hgl : (l ++ [(⟨p, s, false⟩ : Bk)])[j]? = some ⟨p, s, false⟩ := by rw [List.getElem?_append_right (by omega), hlj, Nat.sub_self]; rfl
      have HGL := Lib.hid hgl
      have HTL' := Lib.hid htl'
      have HUF := Lib.hid huf'
      have HB := Lib.hid hb
      have HOWN := Lib.hid hown
      have HALT : Hid (∀ k, (Value.slice A7 j c7).ownBlock = some k → B0 ≤ k ∧ k < wr.heap.size) := hown.lt
      have HFL : Hid (flatK (l ++ [⟨p, s, false⟩]) = flatK l ++ [.int .i64 (p : Int), .int .i64 (s : Int), .bool false]) := flatK_append _ _
      have HLJ := Lib.hid hlj
      obtain ⟨w4, hw4⟩ : ∃ w4, wr.alloc (.cells #[.int .i64 (p : Int), .int .i64 (s : Int), .bool false] 27) = w4 := ⟨_, rfl⟩
      have b4 : Below wr.heap.size wr w4 := by rw [← hw4]; exact (Below.refl _ _).alloc (Nat.le_refl _) _
      have n4 : w4.heap[wr.heap.size]? = some (.cells #[.int .i64 (p : Int), .int .i64 (s : Int), .bool false] 27 (0, 0)) := by rw [← hw4]; exact heap_alloc_new wr _
      have HN4 : Hid (∀ j' x, [Value.int .i64 (p : Int), .int .i64 (s : Int), .bool false][j']? = some x → w4.cell? ((⟨wr.heap.size, 0, none⟩ : Addr).add j') = some x) := fun j' x hx => by
        have e : (⟨wr.heap.size, 0, none⟩ : Addr).add j' = ⟨wr.heap.size, j', none⟩ := by unfold Addr.add; split <;> simp_all
        rw [e, cell_of_row w4 _ j' _ _ (0, 0) n4]
        simpa using hx
      have HO1 : Hid (∀ x ∈ [Value.int .i64 (p : Int), .int .i64 (s : Int), .bool false], x.oneCell' = true) := fun x hx => by
        simp at hx
        rcases hx with rfl | rfl | rfl <;> rfl
      have hB4 : B0 ≤ w4.heap.size := Nat.le_trans hBw b4.size
      have OWN4 := Lib.hid (own_below' hown b4)
      have HB4 := Lib.hid (hb.trans (b4.mono hBw))
      have HW4 := Lib.hid hw4
      clear hc1 hz hpk hs htl htl' huf huf' hsz hb hown hlj hgl hw4 b4 n4
      go_wp2_with fail
      refine (HPK.out _).mono ?_
      rintro e w2 ⟨rfl, rfl⟩
      clear q1 HPK
      go_wp2_with (first
        | (rw [HW4.out])
        | (at_builtin; go_must (refine wpList_append_own _ rfl _ _ 24 rfl B0 27 i0 _ 3 24 Try.underlying24 hi hz0 hz1 hz2 rfl (by decide) _ j (flatK l) rfl OWN4.out ⟨wr.heap.size, 0, none⟩ 1 1 [.int .i64 (p : Int), .int .i64 (s : Int), .bool false] rfl rfl HN4.out HO1.out (by unfold maxLen; omega) (by omega) hB4 ?_); intro x5 w5 own5 gr5 at5;
           have gr5' : w4.grownBy w5 (Value.slice A7 j c7).ownBlock := gr5; have HB5 : Hid (Below B0 w w5) := HB4.out.grown gr5' hB4 (fun k hk => (HALT.out k hk).1); have OWN5 : Hid (w5.ownsRow B0 27 3 x5 (j + 1) (flatK (l ++ [⟨p, s, false⟩]))) := (show World.ownsRow _ _ _ _ _ _ _ by rw [HFL.out]; exact own5); clear own5 gr5 gr5' at5; obtain ⟨A5, c5, rfl⟩ := own_sl OWN5.out;
           obtain ⟨b5, o5, rfl, _, hc5⟩ := (own_bks OWN5.out (by rw [List.length_append, List.length_singleton, HLJ.out])) (by rw [List.length_append, List.length_singleton]; omega); have p5 := (hc5 j _ HGL.out).2.1; dsimp only at p5; clear hc5)
        | fail)
      go_roundw
      case rel => exact ⟨j + 1, l ++ [⟨p, s, false⟩], p + s + 32, by go_num, by go_num, by omega, by rw [List.length_append, List.length_singleton, HLJ.out], HTL'.out, HUF.out, by omega, OWN5.out, HB5.out⟩
      case measure => simp only [intOf]; omega
    · obtain rfl : sl = j := by omega
      have hp184 := (tile_mem (inter l) 184 p htl).1
      have hp9 : p ≤ 8000 := by have := HLS.out.1; omega
      obtain ⟨z, hz⟩ : ∃ z, List.replicate p (0 : UInt8) = z := ⟨_, rfl⟩
      have hzl : z.length = p := by rw [← hz]; exact List.length_replicate
      have HMK : ∀ W : World, (Instr.makeSlice 31 (.int .i64 (p : Int)) (.int .i64 (p : Int))).run Try.prog W = .ok (.slice (some ⟨W.heap.size, 0, none⟩) p p) (W.alloc (.cells (rowB z) 5)) := run_mk0 p (by omega) z hz
      obtain ⟨wb, hwb⟩ : ∃ wb, wr.alloc (.cells (rowB z) 5) = wb := ⟨_, rfl⟩
      have f1 : Fill wb wr.heap.size 5 z := by rw [← hwb]; exact Fill.made wr _ _
      have b1 : Below wr.heap.size wr wb := by rw [← hwb]; exact (Below.refl _ _).alloc (Nat.le_refl _) _
      have hbk := own_bks (own_below' hown b1) hlj.symm
      have hma := arena_any wb 32 16384 (some ⟨wr.heap.size, 0, none⟩) p z f1.reads (by omega) (by omega) (by omega) (by omega) (by rw [hzl]; omega)
      rw [hzl] at hma
      have HMA := Lib.hid hma
      have HK3 := Lib.hid (hb.trans (b1.mono hBw))
      have HBK := Lib.hid hbk
      have HWB := Lib.hid hwb
      have HZ := Lib.hid hz
      have HZL := Lib.hid hzl
      have HTI := Lib.hid htl
      have HUF := Lib.hid huf
      have HLJ := Lib.hid hlj
      clear hz hzl hwb f1 b1 hbk hma htl huf hlj hown hb hp hp184 hj hlt
      go_wp2_with fail
      rw [HWB.out]
      refine HMA.out.mono ?_
      rintro e w4 hmade
      obtain ⟨g, A, c, rfl, hst⟩ := St.made hmade
      have HST := Lib.hid hst
      clear hmade hst HMA HMK HWB
      go_wp2
      go_loopw [12] (fun i wr => ∃ (j : Nat) (A : Option Addr) (c : Nat), i = .int .i64 (j : Int) ∧ j ≤ sl ∧ St wb wr g 32 16384 A c (setAll z ((inter l).take (2 * j))) []) (fun i _ => sl - (intOf i).toNat)
      case atStart => exact ⟨0, A, c, rfl, Nat.zero_le _, HST.out⟩
      case round =>
        obtain ⟨j, A, c, rfl, hj, hst⟩ := hrel
        by_cases hlt : j < sl
        · obtain ⟨x, hx⟩ : ∃ x, l[j]? = some x := ⟨l[j]'(by rw [HLJ.out]; exact hlt), List.getElem?_eq_getElem _⟩
          obtain ⟨b, o, rfl, hbb, hc⟩ := HBK.out (by rw [HLJ.out]; omega)
          obtain ⟨s0, s1, s2⟩ := hc j x hx
          have k0 : ∀ W, Below wb.heap.size wb W → W.cell? ⟨b, o + j * 3, none⟩ = some (.int .i64 (x.off : Int)) ∧ W.cell? ⟨b, o + j * 3 + 1, none⟩ = some (.int .i64 (x.size : Int)) ∧ W.cell? ⟨b, o + j * 3 + 2, none⟩ = some (.bool x.used) := fun W h => ⟨(h.cell (p := ⟨b, _, none⟩) hbb).trans s0, (h.cell (p := ⟨b, _, none⟩) hbb).trans s1, (h.cell (p := ⟨b, _, none⟩) hbb).trans s2⟩
          have hji : (j : Int) < (sl : Int) := by omega
          have hsl20 : sl ≤ 20 := HLS.out.1
          obtain ⟨hset1, hx1⟩ := setAll_next HTI.out (Nat.le_refl _) rfl (by rw [HZL.out]; exact Nat.le_refl _) (inter_get l j x hx).1
          obtain ⟨hset2, hx2⟩ := setAll_next HTI.out (Nat.le_refl _) rfl (by rw [HZL.out]; exact Nat.le_refl _) (inter_get l j x hx).2
          have hl1 := setAll_len HTI.out (by rw [HZL.out]; exact Nat.le_refl _) (2 * j)
          have hl2 := setAll_len HTI.out (by rw [HZL.out]; exact Nat.le_refl _) (2 * j + 1)
          rw [HZL.out] at hx1 hx2 hl1 hl2
          have e2 : 2 * (j + 1) = 2 * j + 1 + 1 := by omega
          have hus := HUF.out x (List.mem_of_getElem? hx)
          obtain ⟨xo, xs, xu⟩ := x
          dsimp only at hset1 hset2 hx1 hx2 k0 hus
          subst hus
          have hxe : (xo : Int) + (xs : Int) ≤ 8000 := by omega
          obtain ⟨wd, hwd⟩ : ∃ wd, wr.drew = wd := ⟨_, rfl⟩
          have hstd := hst.below (Below.refl _ _).drew
          rw [hwd] at hstd
          have HS1 := Lib.hid (HS.out wd g 32 16384 c A _ (xo : Int) (xs : Int) false _ hstd.ar (by omega) (by rw [hl1]; omega) (by omega) (by omega) hset1)
          have HSET2 := Lib.hid hset2
          have HE2 := Lib.hid e2
          have HL2 := Lib.hid hl2
          have HSTD := Lib.hid hstd
          have HWD := Lib.hid hwd
          have K0 := Lib.hid k0
          clear hbb hc hx s0 s1 s2 k0 hset1 hset2 hl1 hl2 e2 hst hstd hwd hx1 hx2
          go_wp2_with fail
          refine wp_region_tail wb.heap.size [([0, 1, 2, 3, 4], 5), ([6, 7, 8, 9, 10, 11, 12, 13, 14, 15, 16, 17, 18, 19, 20], 21)] [22, 23] [] (by kernel_rfl) (by kernel_rfl) (by kernel_rfl) (fun _ _ _ _ _ h => h) ?_
          rw [HWD.out]
          have t0 : ∀ z : LaterB wb.heap.size wd, z.val.cell? ⟨b, o + j * 3, none⟩ = some (.int .i64 (xo : Int)) := fun z => (K0.out z.val (HSTD.out.bel.trans z.ext)).1
          have t1 : ∀ z : LaterB wb.heap.size wd, z.val.cell? ⟨b, o + j * 3 + 1, none⟩ = some (.int .i64 (xs : Int)) := fun z => (K0.out z.val (HSTD.out.bel.trans z.ext)).2.1
          have t2 : ∀ z : LaterB wb.heap.size wd, z.val.cell? ⟨b, o + j * 3 + 2, none⟩ = some (.bool false) := fun z => (K0.out z.val (HSTD.out.bel.trans z.ext)).2.2
          refine tail_cons (l := ?seg1) ?hseg1 ?_
          case hseg1 => simp only [pick, List.getElem?_toArray, List.getElem?_cons_succ, List.getElem?_cons_zero]; rfl
          repeat (go_big_quiet_step (fail))
          refine wpQuiet_nil ?_
          clear t0 t1 t2
          refine tail_call2 (vs := #[.pointer (some ⟨g, 0, none⟩), .agg #[.int .i64 (xo : Int), .int .i64 (xs : Int), .bool false]]) Try.call7 rfl rfl rfl (R := fun r w' => r = .nilIface ∧ ∃ A' c', St wb w' g 32 16384 A' c' (setAll z ((inter l).take (2 * j + 1))) [] ∧ Below wb.heap.size wd w') (HS1.out.mono ?_) ?_
          · rintro e w' ⟨rfl, hbe⟩
            obtain ⟨_, _, _, hb2, _⟩ := hbe.below (B := wb.heap.size) HSTD.out.gB HSTD.out.aB HSTD.out.size
            obtain ⟨A5, c5, hst5⟩ := HSTD.out.became hbe
            exact ⟨_, rfl, hb2, rfl, A5, c5, hst5, hb2⟩
          rintro r w5 _ ⟨rfl, A5, c5, hst5, b5⟩
          refine ⟨wb.heap.size, Nat.le_refl _, ?_⟩
          have HS2 := Lib.hid (HS.out w5 g 32 16384 c5 A5 _ ((xo : Int) + (xs : Int)) 32 true _ hst5.ar (by omega) (by rw [HL2.out]; omega) (by omega) (by omega) HSET2.out)
          have HST5 := Lib.hid hst5
          clear hst5 b5 HS1 HSTD HWD
          have t0 : ∀ z : LaterB wb.heap.size w5, z.val.cell? ⟨b, o + j * 3, none⟩ = some (.int .i64 (xo : Int)) := fun z => (K0.out z.val (HST5.out.bel.trans z.ext)).1
          have t1 : ∀ z : LaterB wb.heap.size w5, z.val.cell? ⟨b, o + j * 3 + 1, none⟩ = some (.int .i64 (xs : Int)) := fun z => (K0.out z.val (HST5.out.bel.trans z.ext)).2.1
          refine tail_cons (l := ?seg2) ?hseg2 ?_
          case hseg2 => simp only [pick, List.getElem?_toArray, List.getElem?_cons_succ, List.getElem?_cons_zero]; rfl
          simp only [Act.put, List.setIfInBounds_toArray, List.set_cons_zero, List.set_cons_succ]
          repeat (go_big_quiet_step (fail))
          refine wpQuiet_nil ?_
          clear t0 t1
          refine tail_call2 (vs := #[.pointer (some ⟨g, 0, none⟩), .agg #[.int .i64 ((xo : Int) + (xs : Int)), .int .i64 32, .bool true]]) Try.call7 rfl rfl rfl (R := fun r w' => r = .nilIface ∧ ∃ A' c', St wb w' g 32 16384 A' c' (setAll z ((inter l).take (2 * (j + 1)))) []) (HS2.out.mono ?_) ?_
          · rintro e w' ⟨rfl, hbe⟩
            obtain ⟨_, _, _, hb2, _⟩ := hbe.below (B := wb.heap.size) HST5.out.gB HST5.out.aB HST5.out.size
            obtain ⟨A6, c6, hst6⟩ := HST5.out.became hbe
            exact ⟨_, rfl, hb2, rfl, A6, c6, by rw [HE2.out]; exact hst6⟩
          rintro r w6 _ ⟨rfl, A6, c6, hst6⟩
          refine ⟨wb.heap.size, Nat.le_refl _, ?_⟩
          have HST6 := Lib.hid hst6
          clear hst6 HST5 HS2
          refine tail_last (l := ?la3) (t := []) ?hla3 ?htl3 ?_
          case hla3 => simp only [pick, List.getElem?_toArray, List.getElem?_cons_succ, List.getElem?_cons_zero]; rfl
          case htl3 => rfl
          simp only [Act.put, List.setIfInBounds_toArray, List.set_cons_zero, List.set_cons_succ]
          repeat (go_big_quiet_step (fail))
          refine wpQuiet_nil ?_
          go_wp2
          go_roundw
          case rel => exact ⟨j + 1, A6, c6, by go_num, by omega, HST6.out⟩
          case measure => simp only [intOf]; omega
        · obtain rfl : sl = j := by omega
          have hil : (inter l).length ≤ 2 * sl := by rw [inter_len, HLJ.out]; exact Nat.le_refl _
          have hsl20 : sl ≤ 20 := HLS.out.1
          obtain ⟨bs0, hbs0⟩ : ∃ bs0, setAll z (inter l) = bs0 := ⟨_, rfl⟩
          rw [List.take_of_length_le hil, hbs0] at hst
          have hlen0 := setAll_len (bs := z) HTI.out (by rw [HZL.out]; exact Nat.le_refl _) (2 * sl)
          rw [List.take_of_length_le hil, hbs0, HZL.out] at hlen0
          have hli0 : Lists bs0 (inter l) (fun _ => []) := by rw [← hbs0, ← HZ.out]; exact lists_set HTI.out (by omega)
          have hin0 : InL l (List.replicate sl false) (fun _ => []) := fun k x c hk hc => by simp [List.getElem?_replicate]
          obtain ⟨c22, h22⟩ : ∃ c22 : List Value, List.replicate 22 (Value.slice none 0 0) = c22 := ⟨_, rfl⟩
          obtain ⟨ib, hib⟩ : ∃ ib : List Bool, List.replicate sl false = ib := ⟨_, rfl⟩
          rw [hib] at hin0
          obtain ⟨wg, hwg⟩ : ∃ wg, wr.alloc (.cells c22.toArray 22) = wg := ⟨_, rfl⟩
          obtain ⟨wi, hwi⟩ : ∃ wi, wg.alloc (.cells (ib.map Value.bool).toArray 4) = wi := ⟨_, rfl⟩
          have b1 : Below wr.heap.size wr wg := by rw [← hwg]; exact (Below.refl _ _).alloc (Nat.le_refl _) _
          have b2 : Below wg.heap.size wg wi := by rw [← hwi]; exact (Below.refl _ _).alloc (Nat.le_refl _) _
          have n1 : wg.heap[wr.heap.size]? = some (.cells c22.toArray 22 (0, 0)) := by rw [← hwg]; exact heap_alloc_new wr _
          have n2 : wi.heap[wg.heap.size]? = some (.cells (ib.map Value.bool).toArray 4 (0, 0)) := by rw [← hwi]; exact heap_alloc_new wg _
          have hne := heap_lt n1
          have hlf : Lf wb wi g A c bs0 wr.heap.size wg.heap.size (fun _ => []) c22 ib :=
            ⟨(hst.below b1).below b2, ⟨by rw [← h22]; exact List.length_replicate, (b2.block _ hne).trans n1, fun d hd => ⟨none, 0, by rw [← h22, List.getElem?_replicate, if_pos hd]; rfl, fun _ => rfl, Rw.nil rfl⟩⟩, n2, hst.nofoot (Nat.le_refl _), hst.nofoot b1.size, Nat.ne_of_lt hne, hst.size, Nat.le_trans hst.size b1.size⟩
          have HMS : ∀ W : World, (Instr.makeSlice 35 (.int .i64 22) (.int .i64 22)).run Try.prog W = .ok (.slice (some ⟨W.heap.size, 0, none⟩) 22 22) (W.alloc (.cells c22.toArray 22)) := fun W => by rw [← h22]; exact mk_sls W
          have HMB : ∀ W : World, (Instr.makeSlice 36 (.int .i64 (sl : Int)) (.int .i64 (sl : Int))).run Try.prog W = .ok (.slice (some ⟨W.heap.size, 0, none⟩) sl sl) (W.alloc (.cells (ib.map Value.bool).toArray 4)) := fun W => by rw [← hib]; exact mk_bools sl (by omega) W
          have HIL : Hid (ib.length = sl) := (show _ = _ by rw [← hib]; exact List.length_replicate)
          have HWG := Lib.hid hwg
          have HWI := Lib.hid hwi
          have HLF := Lib.hid hlf
          have HLI := Lib.hid hli0
          have HIN := Lib.hid hin0
          have HLEN := Lib.hid hlen0
          have HGI : Hid (wg.heap.size = wr.heap.size + 1) := (show _ = _ by rw [← hwg]; simp)
          clear h22 hib hil hbs0 hst hlen0 hli0 hin0 hwg hwi b1 b2 n1 n2 hne hlf hj hlt HST
          go_wp2
          rw [HWG.out, HWI.out, ← HGI.out]
          generalize wg.heap.size = gi at *
          generalize wr.heap.size = gl at *
          clear HMS HMB HWG HWI HGI
          generalize wr = wq at *
          go_loopw [15] (fun i wr => ∃ (n : Nat) (A : Option Addr) (c : Nat) (bs : List UInt8) (L : Nat → List Nat) (cs : List Value) (inn : List Bool), i = .int .i64 (n : Int) ∧ n ≤ ol + tl ∧ Lf wb wr g A c bs gl gi L cs inn ∧ Lists bs (inter l) L ∧ InL l inn L ∧ inn.length = sl ∧ (∀ d, (L d).length ≤ n) ∧ bs.length = p) (fun i _ => ol + tl - (intOf i).toNat)
          case atStart => exact ⟨0, A, c, bs0, _, _, _, rfl, Nat.zero_le _, HLF.out, HLI.out, HIN.out, HIL.out, fun d => Nat.zero_le _, HLEN.out⟩
          case round =>
            obtain ⟨n, A, c, bs, L, cs, inn, rfl, hn, hlf, hli, hin, hinl, hLn, hbl⟩ := hrel
            have hot := HLS.out.2
            clear HLF HLI HIN HIL HLEN
            by_cases hlt : n < ol + tl
            · have g1 : decide ((n : Int) < (ol : Int) + (tl : Int)) = true := decide_eq_true (by omega)
              have g2 : decide (n < ol + tl) = true := decide_eq_true hlt
              by_cases hs0 : 0 < sl
              · have g3 : decide ((0 : Int) < (sl : Int)) = true := decide_eq_true (by omega)
                have g4 : decide (0 < sl) = true := decide_eq_true hs0
                have hWW : Below B0 w wr := HK3.out.trans (hlf.st.bel.mono (by have := HK3.out.size; have := HB0.out; omega))
                by_cases hpt : n < ol
                · have g5 : decide ((n : Int) < (ol : Int)) = true := decide_eq_true (by omega)
                  have g6 : decide (n < ol) = true := decide_eq_true hpt
                  have hni : (n : Int) < (ol : Int) := by omega
                  obtain ⟨z1, hz1⟩ : ∃ z1, os[n]? = some z1 := ⟨os[n]'(by rw [HOL.out]; omega), List.getElem?_eq_getElem _⟩
                  obtain ⟨b1, o1, rfl, hbb1, hc1⟩ := HI1.out (by rw [HOL.out]; omega)
                  have q1 := (hWW.cell (p := ⟨b1, o1 + n, none⟩) (by rw [← HB0.out]; exact hbb1)).trans (hc1 n z1 hz1)
                  obtain ⟨k, hk⟩ : ∃ k, (z1 % (sl : Int)).toNat = k := ⟨_, rfl⟩
                  have hk1 : k < sl := by have := Int.emod_nonneg z1 (b := (sl : Int)) (by omega); have := Int.emod_lt_of_pos z1 (b := (sl : Int)) (by omega); omega
                  have HPK := Lib.hid (fun W => lpick_any z1 sl W hs0 (by omega) k hk)
                  obtain ⟨bb, hbk⟩ : ∃ bb, inn[k]? = some bb := ⟨inn[k]'(by omega), List.getElem?_eq_getElem _⟩
                  have q2 := hlf.bool hbk
                  obtain ⟨x, hx⟩ : ∃ x, l[k]? = some x := ⟨l[k]'(by rw [HLJ.out]; exact hk1), List.getElem?_eq_getElem _⟩
                  obtain ⟨b, o, rfl, hbb, hc⟩ := HBK.out (by rw [HLJ.out]; omega)
                  obtain ⟨s0, s1, s2⟩ := hc k x hx
                  have k0 : ∀ W, Below wb.heap.size wb W → W.cell? ⟨b, o + k * 3, none⟩ = some (.int .i64 (x.off : Int)) ∧ W.cell? ⟨b, o + k * 3 + 1, none⟩ = some (.int .i64 (x.size : Int)) ∧ W.cell? ⟨b, o + k * 3 + 2, none⟩ = some (.bool x.used) := fun W h => ⟨(h.cell (p := ⟨b, _, none⟩) hbb).trans s0, (h.cell (p := ⟨b, _, none⟩) hbb).trans s1, (h.cell (p := ⟨b, _, none⟩) hbb).trans s2⟩
                  obtain ⟨p0, p1, _⟩ := k0 wr hlf.st.bel
                  have hki : (k : Int) < (sl : Int) := by omega
                  have hxm := inter_mem (List.mem_of_getElem? hx)
                  have hxf := hli.st.facts hxm
                  have hxu := HUF.out x (List.mem_of_getElem? hx)
                  obtain ⟨cl, hcl, hcl22⟩ := class_nat hxf.2.2.2.2.2
                  have hsl20 : sl ≤ 20 := HLS.out.1
                  cases bb with
                  | true =>
                    have HH := Lib.hid (And.intro hlf (And.intro hli (And.intro hin (And.intro hinl (And.intro hLn hbl)))))
                    clear hz1 hbb1 hc1 hk hbk hx hbb hc s0 s1 s2 k0 p0 p1 hxm hxf hxu hcl hcl22 hlf hli hin hinl hLn hbl
                    go_wp2_with fail
                    refine (HPK.out _).mono ?_
                    rintro e w2 ⟨rfl, rfl⟩
                    go_wp2
                    go_roundw
                    case rel => exact ⟨n + 1, A, c, bs, L, cs, inn, by go_num, by omega, HH.out.1, HH.out.2.1, HH.out.2.2.1, HH.out.2.2.2.1, fun d => Nat.le_succ_of_le (HH.out.2.2.2.2.1 d), HH.out.2.2.2.2.2⟩
                    case measure => simp only [intOf]; omega
                  | false =>
                    obtain ⟨bs', hput, hli', hbl', _⟩ := hli.put hxm hxu hcl hcl22 (fun h => by have := (hin k x cl hx hcl).2 h; rw [hbk] at this; cases this)
                    have hin' := hin.put HTI.out hx hcl (by omega)
                    have hlfm := hlf.mark k true
                    have f2 := frozen_of_row wr gi k _ _ hlf.ir
                    have HCL := Lib.hid (fun W => rclass_any W (x.size : Int) (by omega) (cl : Int) hcl)
                    have HPut := Lib.hid (HP.out _ g 32 16384 c A bs (x.off : Int) _ hlfm.st.ar (by omega) (by omega) (by omega) hput)
                    obtain ⟨m0, _, _⟩ := k0 _ hlfm.st.bel
                    have K0 := Lib.hid k0
                    have HLM := Lib.hid hlfm
                    have HLI' := Lib.hid hli'
                    have HIN' := Lib.hid hin'
                    have HLN := Lib.hid hLn
                    have HBL' : Hid (bs'.length = p) := hbl'.trans hbl
                    have HIL' : Hid ((inn.set k true).length = sl) := (show _ = _ by rw [List.length_set]; exact hinl)
                    obtain ⟨xo, xs, xu⟩ := x
                    dsimp only at p0 p1 m0 HCL HPut K0 HLI' HIN'
                    clear hz1 hbb1 hc1 hk hbk hx hbb hc s0 s1 s2 k0 hxm hxf hxu hcl hlf hli hin hinl hLn hbl hput hli' hbl' hin' hlfm
                    go_wp2_with fail
                    refine (HPK.out _).mono ?_
                    rintro e w2 ⟨rfl, rfl⟩
                    go_wp2_with fail
                    refine (HCL.out _).mono ?_
                    rintro e w2 ⟨rfl, rfl⟩
                    clear HPK HCL
                    go_wp2_with fail
                    refine HPut.out.mono ?_
                    rintro e w5 ⟨rfl, hbe⟩
                    obtain ⟨A5, c5, hlf5⟩ := HLM.out.became hbe
                    clear q1 q2 p0 p1 m0 f2 HPut HLM hbe
                    obtain ⟨wd, hwd⟩ : ∃ wd, w5.drew = wd := ⟨_, rfl⟩
                    have hlfd := hlf5.below (Below.refl _ _).drew
                    rw [hwd] at hlfd
                    obtain ⟨Ad, cd, hcell, hAd, hrw⟩ := hlfd.ls.cell hcl22
                    have HLD := Lib.hid hlfd
                    have HWD := Lib.hid hwd
                    have HRW := Lib.hid hrw
                    have HAD := Lib.hid hAd
                    have hgl := heap_lt hlfd.ls.row
                    have hci : (cl : Int) < 22 := by omega
                    clear hlf5 hlfd hwd hrw hAd
                    dsimp only [errV]
                    go_wp2_with fail
                    refine wp_region_tail wd.heap.size [([0, 1, 2, 3, 4, 5, 6, 8, 9, 10, 11], 7)] [] [12, 13, 14] (by kernel_rfl) (by kernel_rfl) (by kernel_rfl) (fun _ _ _ _ _ h => h) ?_
                    rw [HWD.out]
                    have t0 : ∀ z : LaterB wd.heap.size wd, z.val.cell? ⟨b, o + k * 3, none⟩ = some (.int .i64 (xo : Int)) := fun z => (K0.out z.val (HLD.out.st.bel.trans (z.ext.mono HLD.out.st.size))).1
                    have t1 : ∀ z : LaterB wd.heap.size wd, z.val.cell? ⟨gl, cl, none⟩ = some (.slice Ad (L cl).length cd) := fun z => (z.ext.cell (p := ⟨gl, cl, none⟩) hgl).trans hcell
                    refine tail_cons (l := ?segP1) ?hsegP1 ?_
                    case hsegP1 => simp only [pick, List.getElem?_toArray, List.getElem?_cons_succ, List.getElem?_cons_zero]; rfl
                    repeat (go_big_quiet_step (fail))
                    refine wpQuiet_nil ?_
                    clear t0 t1
                    obtain ⟨w6, hw6⟩ : ∃ w6, wd.alloc (.cells #[.int .i64 (xo : Int)] 3) = w6 := ⟨_, rfl⟩
                    have b6 : Below wd.heap.size wd w6 := by rw [← hw6]; exact (Below.refl _ _).alloc (Nat.le_refl _) _
                    have own6 : w6.ownsRow wd.heap.size 3 1 (.slice (some ⟨wd.heap.size, 0, none⟩) 1 1) 1 ([xo].map iV) := by rw [← hw6]; exact own_one wd xo
                    refine tail_val2 (some 172) (w1 := w6) (v := .slice (some ⟨wd.heap.size, 0, none⟩) 1 1) rfl rfl rfl (by rw [← hw6]; exact bslice_run rfl rfl (run_one_int wd (xo : Int))) b6 ⟨wd.heap.size, Nat.le_refl _, ?_⟩
                    have OWN6 := Lib.hid own6
                    have HB6 := Lib.hid b6
                    have b6s := b6.size
                    have HRW6 := Lib.hid (HRW.out.keep (w' := w6) (S' := Sx g A5 gl gi) b6.size (fun k hk hn => ⟨b6.block k hk, hn⟩))
                    have hLc : (L cl).length ≤ 80 := by have := HLN.out cl; omega
                    clear own6 b6 hw6 hcell HRW HWD
                    refine tail_last (l := ?laP) (t := ?tlP) ?hlaP ?htlP ?_
                    case hlaP => rfl
                    case htlP => simp only [pick, List.getElem?_toArray, List.getElem?_cons_succ, List.getElem?_cons_zero]; rfl
                    simp only [Act.put, List.setIfInBounds_toArray, List.set_cons_zero, List.set_cons_succ]
                    refine wpQuiet_nil ?_
                    go_wp2_with (first
                      | (at_builtin; go_must (refine append_ints rfl (.tmp 172) (.tmp 176) rfl wd.heap.size _ 1 [xo] rfl OWN6.out (Sx g A5 gl gi) Ad cd (L cl) rfl HRW6.out HAD.out (by omega) b6s ?_); intro x7 w7 own7 gr7;
                         have HB7 : Hid (Below wd.heap.size wd w7) := HB6.out.grown gr7 b6s (fun k hk => by cases hk; exact Nat.le_refl _); have OWN7 := Lib.hid own7; clear own7 gr7; obtain ⟨A7', c7', rfl⟩ := own_sl OWN7.out; have HL7 := Lib.hid (HLD.out.below HB7.out);
                         obtain ⟨Aq, cq, q3, _, _⟩ := HL7.out.ls.cell hcl22; have f3 := frozen_of_row w7 gl cl _ _ HL7.out.ls.row)
                      | fail)
                    have hro := rw_own (S := Sx g A5 gl gi) (l := xo :: L cl) OWN7.out (by rw [List.length_cons, Nat.add_comm]) (fun k hk => HLD.out.fresh hk)
                    have hlf8 := HL7.out.put hcl22 hro.2 hro.1
                    have e8 : (xo :: L cl).length = 1 + (L cl).length := by rw [List.length_cons, Nat.add_comm]
                    have HLN8 : Hid (∀ d, (setL L cl (xo :: L cl) d).length ≤ n + 1) := setL_len HLN.out (by rw [e8]; have := HLN.out cl; omega) (by omega)
                    rw [e8] at hlf8
                    have HLF8 := Lib.hid hlf8
                    clear hro hlf8 e8 q3 f3 HL7 OWN7 HB7 OWN6 HB6 HRW6 HAD HLD hLc b6s
                    go_wp2
                    go_loopw [21] (fun d wr => ∃ e : Nat, e ≤ 22 ∧ d = .int .i64 (e : Int) ∧ Lf wb wr g A5 c5 bs' gl gi (setL L cl (xo :: L cl)) (cs.set cl (.slice A7' (1 + (L cl).length) c7')) (inn.set k true)) (fun d _ => 22 - (intOf d).toNat)
                    case atStart => exact ⟨0, Nat.zero_le _, rfl, HLF8.out⟩
                    case round =>
                      obtain ⟨e, he, rfl, hlf⟩ := hrel
                      by_cases he22 : e < 22
                      · have hei : (e : Int) < 22 := by omega
                        obtain ⟨m, hm⟩ : ∃ m, ((setL L cl (xo :: L cl)) e).length = m := ⟨_, rfl⟩
                        have hm1 : m ≤ 100 := by have := HLN8.out e; omega
                        have hall := HLI'.out.all he22 (by omega)
                        have HAll := Lib.hid (HA.out wr g 32 16384 c5 A5 bs' e _ hlf.st.ar (by omega) (by rw [HBL'.out]; omega) he22 hall)
                        obtain ⟨Aq, cq, hq, hAq, hrq⟩ := hlf.ls.cell he22
                        rw [hm] at hq
                        have hglq := heap_lt hlf.ls.row
                        have HRQ := Lib.hid hrq.reads
                        have HLF := Lib.hid hlf
                        have HM := Lib.hid hm
                        clear hall hrq hlf hm hAq
                        go_wp2_with fail
                        refine HAll.out.mono ?_
                        rintro e9 w9 ⟨A9, c9, rfl, hown, hb⟩
                        dsimp only [Option.getD, Option.isSome, errV] at hown ⊢
                        rw [HM.out] at hown ⊢
                        have q9 := (hb.cell (p := ⟨gl, e, none⟩) hglq).trans hq
                        have hsm := ints_same w9 A9 Aq c9 cq (nats ((setL L cl (xo :: L cl)) e)) (own_ints hown HM.out.symm) ((HRQ.out.below hb).more hb.size) (by rw [nats_len, HM.out]; omega)
                        rw [nats_len, HM.out] at hsm
                        have HSM := Lib.hid hsm
                        have HLF9 := Lib.hid (HLF.out.below hb)
                        clear hown hb hsm HAll HLF HRQ hq
                        go_wp2_with fail
                        refine HSM.out.mono ?_
                        rintro e10 w10 ⟨rfl, hb⟩
                        have HLF10 := Lib.hid (HLF9.out.below hb)
                        clear hb q9 HSM HLF9
                        go_wp2
                        go_roundw
                        case rel => exact ⟨e + 1, by omega, by go_num, HLF10.out⟩
                        case measure => simp only [intOf]; omega
                      · have HLF := Lib.hid hlf
                        clear hlf HLF8
                        go_wp2
                        go_roundw
                        case rel => exact ⟨n + 1, A5, c5, bs', _, _, _, by go_num, by omega, HLF.out, HLI'.out, HIN'.out, HIL'.out, HLN8.out, HBL'.out⟩
                        case measure => simp only [intOf]; omega
                · have g5 : decide ((n : Int) < (ol : Int)) = false := decide_eq_false (by omega)
                  have g6 : decide (n < ol) = false := decide_eq_false hpt
                  obtain ⟨ti, hti⟩ : ∃ ti, n - ol = ti := ⟨_, rfl⟩
                  have hk1' : (n : Int) - (ol : Int) = (ti : Int) := by omega
                  have hni : (ti : Int) < (tl : Int) := by omega
                  obtain ⟨z1, hz1⟩ : ∃ z1, ts[ti]? = some z1 := ⟨ts[ti]'(by rw [HTL.out]; omega), List.getElem?_eq_getElem _⟩
                  obtain ⟨b1, o1, rfl, hbb1, hc1⟩ := HI2.out (by rw [HTL.out]; omega)
                  have q1 := (hWW.cell (p := ⟨b1, o1 + ti, none⟩) (by rw [← HB0.out]; exact hbb1)).trans (hc1 ti z1 hz1)
                  obtain ⟨k, hk⟩ : ∃ k, (z1 % (sl : Int)).toNat = k := ⟨_, rfl⟩
                  have hk1 : k < sl := by have := Int.emod_nonneg z1 (b := (sl : Int)) (by omega); have := Int.emod_lt_of_pos z1 (b := (sl : Int)) (by omega); omega
                  have HPK := Lib.hid (fun W => lpick_any z1 sl W hs0 (by omega) k hk)
                  obtain ⟨bb, hbk⟩ : ∃ bb, inn[k]? = some bb := ⟨inn[k]'(by omega), List.getElem?_eq_getElem _⟩
                  have q2 := hlf.bool hbk
                  obtain ⟨x, hx⟩ : ∃ x, l[k]? = some x := ⟨l[k]'(by rw [HLJ.out]; exact hk1), List.getElem?_eq_getElem _⟩
                  obtain ⟨b, o, rfl, hbb, hc⟩ := HBK.out (by rw [HLJ.out]; omega)
                  obtain ⟨s0, s1, s2⟩ := hc k x hx
                  have k0 : ∀ W, Below wb.heap.size wb W → W.cell? ⟨b, o + k * 3, none⟩ = some (.int .i64 (x.off : Int)) ∧ W.cell? ⟨b, o + k * 3 + 1, none⟩ = some (.int .i64 (x.size : Int)) ∧ W.cell? ⟨b, o + k * 3 + 2, none⟩ = some (.bool x.used) := fun W h => ⟨(h.cell (p := ⟨b, _, none⟩) hbb).trans s0, (h.cell (p := ⟨b, _, none⟩) hbb).trans s1, (h.cell (p := ⟨b, _, none⟩) hbb).trans s2⟩
                  obtain ⟨p0, p1, _⟩ := k0 wr hlf.st.bel
                  have hki : (k : Int) < (sl : Int) := by omega
                  have hxm := inter_mem (List.mem_of_getElem? hx)
                  have hxf := hli.st.facts hxm
                  have hxu := HUF.out x (List.mem_of_getElem? hx)
                  obtain ⟨cl, hcl, hcl22⟩ := class_nat hxf.2.2.2.2.2
                  have hsl20 : sl ≤ 20 := HLS.out.1
                  cases bb with
                  | false =>
                    have HH := Lib.hid (And.intro hlf (And.intro hli (And.intro hin (And.intro hinl (And.intro hLn hbl)))))
                    clear hz1 hbb1 hc1 hk hbk hx hbb hc s0 s1 s2 k0 p0 p1 hxm hxf hxu hcl hcl22 hlf hli hin hinl hLn hbl
                    go_wp2_with fail
                    refine (HPK.out _).mono ?_
                    rintro e w2 ⟨rfl, rfl⟩
                    go_wp2
                    go_roundw
                    case rel => exact ⟨n + 1, A, c, bs, L, cs, inn, by go_num, by omega, HH.out.1, HH.out.2.1, HH.out.2.2.1, HH.out.2.2.2.1, fun d => Nat.le_succ_of_le (HH.out.2.2.2.2.1 d), HH.out.2.2.2.2.2⟩
                    case measure => simp only [intOf]; omega
                  | true =>
                    obtain ⟨bs', htake, hli', hbl', _⟩ := hli.take hxm hcl22 ((hin k x cl hx hcl).1 hbk)
                    have hin' := hin.take HTI.out hx hcl (by omega)
                    have hlfm := hlf.mark k false
                    have f2 := frozen_of_row wr gi k _ _ hlf.ir
                    have HCL := Lib.hid (fun W => rclass_any W (x.size : Int) (by omega) (cl : Int) hcl)
                    have HTk := Lib.hid (HT.out _ g 32 16384 c A bs (x.off : Int) _ hlfm.st.ar (by omega) (by omega) (by omega) htake)
                    obtain ⟨m0, _, _⟩ := k0 _ hlfm.st.bel
                    have K0 := Lib.hid k0
                    have HLM := Lib.hid hlfm
                    have HLI' := Lib.hid hli'
                    have HIN' := Lib.hid hin'
                    have HLN := Lib.hid hLn
                    have HBL' : Hid (bs'.length = p) := hbl'.trans hbl
                    have HIL' : Hid ((inn.set k false).length = sl) := (show _ = _ by rw [List.length_set]; exact hinl)
                    obtain ⟨xo, xs, xu⟩ := x
                    dsimp only at p0 p1 m0 HCL HTk K0 HLI' HIN'
                    clear hz1 hbb1 hc1 hk hbk hx hbb hc s0 s1 s2 k0 hxm hxf hxu hcl hlf hli hin hinl hLn hbl htake hli' hbl' hin' hlfm
                    go_wp2_with fail
                    refine (HPK.out _).mono ?_
                    rintro e w2 ⟨rfl, rfl⟩
                    go_wp2_with fail
                    refine (HCL.out _).mono ?_
                    rintro e w2 ⟨rfl, rfl⟩
                    clear HPK HCL
                    go_wp2_with fail
                    refine HTk.out.mono ?_
                    rintro e w5 ⟨rfl, hbe⟩
                    obtain ⟨A5, c5, hlf5⟩ := HLM.out.became hbe
                    clear q1 q2 p0 p1 m0 f2 HTk HLM hbe
                    obtain ⟨Ad, cd, hcell, hAd, hrw⟩ := hlf5.ls.cell hcl22
                    have hgl := heap_lt hlf5.ls.row
                    have hci : (cl : Int) < 22 := by omega
                    obtain ⟨M, hM⟩ : ∃ M, (L cl).length = M := ⟨_, rfl⟩
                    have hM1 : M ≤ 80 := by have := HLN.out cl; omega
                    rw [hM] at hcell
                    obtain ⟨B5, hB5⟩ : ∃ B5, w5.heap.size = B5 := ⟨_, rfl⟩
                    have HM := Lib.hid hM
                    have HB5 := Lib.hid hB5
                    have HL5 := Lib.hid hlf5
                    have HRW := Lib.hid hrw
                    have hb5w : wb.heap.size ≤ B5 := by rw [← hB5]; exact hlf5.st.size
                    clear hlf5 hrw hAd hM hB5
                    dsimp only [errV]
                    go_wp2
                    go_loopw [19, 20] (fun r i wr => ∃ (m q : Nat) (F : List Nat), i = .int .i64 (m : Int) ∧ m ≤ M ∧ F.length = q ∧ ((L cl).take m).filter (fun q => decide (q ≠ xo)) = F ∧ wr.ownsRow B5 3 1 r q (F.map iV) ∧ Below B5 w5 wr) (fun _ i _ => M - (intOf i).toNat)
                    case atStart => exact ⟨0, 0, [], rfl, Nat.zero_le _, rfl, rfl, World.ownsRow_nil _ _ _ _, Below.refl _ _⟩
                    case round =>
                      obtain ⟨m, q, F, rfl, hm, hFq, hF, hown, hb⟩ := hrel
                      obtain ⟨A9, c9, rfl⟩ := own_sl hown
                      have hBw : B5 ≤ wr.heap.size := by rw [← HB5.out]; exact hb.size
                      have hglB : gl < B5 := by rw [← HB5.out]; exact hgl
                      have qc := (hb.cell (p := ⟨gl, cl, none⟩) hglB).trans hcell
                      by_cases hmM : m < M
                      · have hmi : (m : Int) < (M : Int) := by omega
                        obtain ⟨y, hy⟩ : ∃ y, (L cl)[m]? = some y := ⟨(L cl)[m]'(by rw [HM.out]; exact hmM), List.getElem?_eq_getElem _⟩
                        obtain ⟨bd, od, rfl, hbd, _, hcd⟩ := HRW.out (by rw [HM.out]; omega)
                        have hyc := hcd m y hy
                        have hbdB : bd < B5 := by rw [← HB5.out]; exact hbd
                        have hqM : q ≤ M := by rw [← hFq, ← hF]; exact Nat.le_trans (List.length_filter_le _ _) (by rw [List.length_take]; omega)
                        obtain ⟨wd, hwd⟩ : ∃ wd, wr.drew = wd := ⟨_, rfl⟩
                        have hbd1 : Below B5 w5 wd := by rw [← hwd]; exact hb.drew
                        have ownd := own_below' hown (w' := wd) (by rw [← hwd]; exact (Below.refl _ _).drew)
                        have hwdB : B5 ≤ wd.heap.size := by rw [← hwd]; exact hBw
                        have HYC : Hid (∀ W, Below B5 w5 W → W.cell? ⟨bd, od + m, none⟩ = some (.int .i64 (y : Int)) ∧ W.cell? ⟨gl, cl, none⟩ = some (.slice (some ⟨bd, od, none⟩) M cd) ∧ W.cell? ⟨b, o + k * 3, none⟩ = some (.int .i64 (xo : Int))) := fun W h => ⟨(h.cell (p := ⟨bd, od + m, none⟩) hbdB).trans hyc, (h.cell (p := ⟨gl, cl, none⟩) hglB).trans hcell, (K0.out W (HL5.out.st.bel.trans (h.mono hb5w))).1⟩
                        have hfs : ((L cl).take (m + 1)).filter (fun q => decide (q ≠ xo)) = if y = xo then F else F ++ [y] := by
                          rw [List.take_add_one, hy, List.filter_append, hF]
                          by_cases e : y = xo
                          · simp [e]
                          · simp [e]
                        have HFS := Lib.hid hfs
                        have HFQ := Lib.hid hFq
                        have HWD := Lib.hid hwd
                        have HBD := Lib.hid hbd1
                        have OWND := Lib.hid ownd
                        have HALT : Hid (∀ k, (Value.slice A9 q c9).ownBlock = some k → B5 ≤ k ∧ k < wd.heap.size) := ownd.lt
                        clear hy hbd hcd hyc hfs hFq hF hwd hbd1 ownd hown hb
                        by_cases hyx : y = xo
                        · have hq1 : ((y : Int) != (xo : Int)) = false := by rw [bne_eq_false_iff_eq]; omega
                          go_wp2_with fail
                          refine wp_region_tail wd.heap.size [] [0, 1, 2, 3, 4, 5, 6, 7, 8, 9, 10, 11, 12] [] (by kernel_rfl) (by kernel_rfl) (by kernel_rfl) (fun _ _ _ _ _ h => h) ?_
                          rw [HWD.out]
                          have t0 : ∀ z : LaterB wd.heap.size wd, z.val.cell? ⟨bd, od + m, none⟩ = some (.int .i64 (y : Int)) := fun z => (HYC.out z.val (HBD.out.trans (z.ext.mono hwdB))).1
                          have t1 : ∀ z : LaterB wd.heap.size wd, z.val.cell? ⟨gl, cl, none⟩ = some (.slice (some ⟨bd, od, none⟩) M cd) := fun z => (HYC.out z.val (HBD.out.trans (z.ext.mono hwdB))).2.1
                          have t2 : ∀ z : LaterB wd.heap.size wd, z.val.cell? ⟨b, o + k * 3, none⟩ = some (.int .i64 (xo : Int)) := fun z => (HYC.out z.val (HBD.out.trans (z.ext.mono hwdB))).2.2
                          refine tail_last (l := ?laF1) (t := []) ?hlaF1 ?htlF1 ?_
                          case hlaF1 => simp only [pick, List.getElem?_toArray, List.getElem?_cons_succ, List.getElem?_cons_zero]; rfl
                          case htlF1 => rfl
                          repeat (go_big_quiet_step (fail))
                          refine wpQuiet_nil ?_
                          clear t0 t1 t2 qc
                          go_wp2
                          go_roundw
                          case rel => exact ⟨m + 1, q, F, by go_num, by omega, HFQ.out, by rw [HFS.out, if_pos hyx], OWND.out, HBD.out⟩
                          case measure => simp only [intOf]; omega
                        · have hq1 : ((y : Int) != (xo : Int)) = true := by rw [bne_iff_ne]; omega
                          go_wp2_with fail
                          refine wp_region_tail wd.heap.size [] [0, 1, 2, 3, 4, 5, 6, 7, 8, 9, 10, 11, 12] [] (by kernel_rfl) (by kernel_rfl) (by kernel_rfl) (fun _ _ _ _ _ h => h) ?_
                          rw [HWD.out]
                          have t0 : ∀ z : LaterB wd.heap.size wd, z.val.cell? ⟨bd, od + m, none⟩ = some (.int .i64 (y : Int)) := fun z => (HYC.out z.val (HBD.out.trans (z.ext.mono hwdB))).1
                          have t1 : ∀ z : LaterB wd.heap.size wd, z.val.cell? ⟨gl, cl, none⟩ = some (.slice (some ⟨bd, od, none⟩) M cd) := fun z => (HYC.out z.val (HBD.out.trans (z.ext.mono hwdB))).2.1
                          have t2 : ∀ z : LaterB wd.heap.size wd, z.val.cell? ⟨b, o + k * 3, none⟩ = some (.int .i64 (xo : Int)) := fun z => (HYC.out z.val (HBD.out.trans (z.ext.mono hwdB))).2.2
                          refine tail_last (l := ?laF2) (t := []) ?hlaF2 ?htlF2 ?_
                          case hlaF2 => simp only [pick, List.getElem?_toArray, List.getElem?_cons_succ, List.getElem?_cons_zero]; rfl
                          case htlF2 => rfl
                          repeat (go_big_quiet_step (fail))
                          refine wpQuiet_nil ?_
                          clear t0 t1 t2 qc
                          have HY0 := (HYC.out wd HBD.out).1
                          have HY1 := (HYC.out wd HBD.out).2.1
                          obtain ⟨w6, hw6⟩ : ∃ w6, wd.alloc (.cells #[.int .i64 (y : Int)] 3) = w6 := ⟨_, rfl⟩
                          have b6 : Below wd.heap.size wd w6 := by rw [← hw6]; exact (Below.refl _ _).alloc (Nat.le_refl _) _
                          have n6 : w6.heap[wd.heap.size]? = some (.cells #[.int .i64 (y : Int)] 3 (0, 0)) := by rw [← hw6]; exact heap_alloc_new wd _
                          have own6 := own_below' OWND.out b6
                          have hr6 : Rw (fun _ => False) w6 (some ⟨wd.heap.size, 0, none⟩) [y] := fun _ => ⟨wd.heap.size, 0, rfl, heap_lt n6, id, fun j x hx => by
                            rw [Nat.zero_add, cell_of_row w6 _ j _ _ (0, 0) n6]
                            match j, hx with
                            | 0, hx => simp at hx; subst hx; rfl⟩
                          have h6B : B5 ≤ w6.heap.size := Nat.le_trans hwdB b6.size
                          have OWN6 := Lib.hid own6
                          have HR6 := Lib.hid hr6
                          have HB6 := Lib.hid (HBD.out.trans (b6.mono hwdB))
                          have HW6 := Lib.hid hw6
                          clear own6 hr6 b6 n6 hw6
                          go_wp2_with (first
                            | (rw [HW6.out])
                            | (at_builtin; go_must (refine append_ints rfl _ _ rfl B5 _ q F rfl OWN6.out (fun _ => False) (some ⟨wd.heap.size, 0, none⟩) 1 [y] rfl HR6.out (fun h => by cases h) (by rw [List.length_singleton]; omega) h6B ?_); intro x7 w7 own7 gr7;
                               have HB7 : Hid (Below B5 w5 w7) := HB6.out.grown gr7 h6B (fun k hk => (HALT.out k hk).1); have OWN7 : Hid (w7.ownsRow B5 3 1 x7 (q + 1) ((F ++ [y]).map iV)) := own7; clear own7 gr7)
                            | fail)
                          go_roundw
                          case rel => exact ⟨m + 1, q + 1, F ++ [y], by go_num, by omega, by rw [List.length_append, List.length_singleton, HFQ.out], by rw [HFS.out, if_neg hyx], OWN7.out, HB7.out⟩
                          case measure => simp only [intOf]; omega
                      · obtain rfl : M = m := by omega
                        rw [List.take_of_length_le (Nat.le_of_eq HM.out)] at hF
                        have HL9 := Lib.hid (HL5.out.below (by rw [HB5.out]; exact hb))
                        have hro := rw_own (S := Sx g A5 gl gi) (l := F) hown hFq.symm (fun k hk => HL5.out.fresh (by rw [HB5.out]; exact hk))
                        have hlf8 := HL9.out.put hcl22 (c1 := c9) hro.2 hro.1
                        have hFM : F.length ≤ M := by rw [← hF, ← HM.out]; exact List.length_filter_le _ _
                        have HLN8 : Hid (∀ d, (setL L cl F d).length ≤ n + 1) := setL_len HLN.out (by have := HLN.out cl; have := HM.out; omega) (by omega)
                        have HLI2 : Hid (Lists bs' (inter l) (setL L cl F)) := (show Lists _ _ _ by rw [← hF]; exact HLI'.out)
                        have HIN2 : Hid (InL l (inn.set k false) (setL L cl F)) := (show InL _ _ _ by rw [← hF]; exact HIN'.out)
                        rw [hFq] at hlf8
                        have HLF8 := Lib.hid hlf8
                        have f3 := frozen_of_row wr gl cl _ _ HL9.out.ls.row
                        clear hro hlf8 hFM hF hown hb HLI' HIN' HL9 HL5 HRW
                        go_wp2
                        go_loopw [21] (fun d wr => ∃ e : Nat, e ≤ 22 ∧ d = .int .i64 (e : Int) ∧ Lf wb wr g A5 c5 bs' gl gi (setL L cl F) (cs.set cl (.slice A9 q c9)) (inn.set k false)) (fun d _ => 22 - (intOf d).toNat)
                        case atStart => exact ⟨0, Nat.zero_le _, rfl, HLF8.out⟩
                        case round =>
                          obtain ⟨e, he, rfl, hlf⟩ := hrel
                          by_cases he22 : e < 22
                          · have hei : (e : Int) < 22 := by omega
                            obtain ⟨m, hm⟩ : ∃ m, ((setL L cl F) e).length = m := ⟨_, rfl⟩
                            have hm1 : m ≤ 100 := by have := HLN8.out e; omega
                            have hall := HLI2.out.all he22 (by omega)
                            have HAll := Lib.hid (HA.out wr g 32 16384 c5 A5 bs' e _ hlf.st.ar (by omega) (by rw [HBL'.out]; omega) he22 hall)
                            obtain ⟨Aq, cq, hq, hAq, hrq⟩ := hlf.ls.cell he22
                            rw [hm] at hq
                            have hglq := heap_lt hlf.ls.row
                            have HRQ := Lib.hid hrq.reads
                            have HLF := Lib.hid hlf
                            have HM := Lib.hid hm
                            clear hall hrq hlf hm hAq
                            go_wp2_with fail
                            refine HAll.out.mono ?_
                            rintro e9 w9 ⟨A9, c9, rfl, hown, hb⟩
                            dsimp only [Option.getD, Option.isSome, errV] at hown ⊢
                            rw [HM.out] at hown ⊢
                            have q9 := (hb.cell (p := ⟨gl, e, none⟩) hglq).trans hq
                            have hsm := ints_same w9 A9 Aq c9 cq (nats ((setL L cl F) e)) (own_ints hown HM.out.symm) ((HRQ.out.below hb).more hb.size) (by rw [nats_len, HM.out]; omega)
                            rw [nats_len, HM.out] at hsm
                            have HSM := Lib.hid hsm
                            have HLF9 := Lib.hid (HLF.out.below hb)
                            clear hown hb hsm HAll HLF HRQ hq
                            go_wp2_with fail
                            refine HSM.out.mono ?_
                            rintro e10 w10 ⟨rfl, hb⟩
                            have HLF10 := Lib.hid (HLF9.out.below hb)
                            clear hb q9 HSM HLF9
                            go_wp2
                            go_roundw
                            case rel => exact ⟨e + 1, by omega, by go_num, HLF10.out⟩
                            case measure => simp only [intOf]; omega
                          · have HLF := Lib.hid hlf
                            clear hlf HLF8
                            go_wp2
                            go_roundw
                            case rel => exact ⟨n + 1, A5, c5, bs', _, _, _, by go_num, by omega, HLF.out, HLI2.out, HIN2.out, HIL'.out, HLN8.out, HBL'.out⟩
                            case measure => simp only [intOf]; omega
              · have g3 : decide ((0 : Int) < (sl : Int)) = false := decide_eq_false (by omega)
                have g4 : decide (0 < sl) = false := decide_eq_false hs0
                have HK := Lib.hid (HK3.out.trans (hlf.st.bel.mono (by have := HK3.out.size; have := HB0.out; omega)))
                clear hlf hli hin hinl hLn hbl
                go_wp2
                go_ret
                exact ⟨rfl, by rw [HB0.out]; exact HK.out⟩
            · have g1 : decide ((n : Int) < (ol : Int) + (tl : Int)) = false := decide_eq_false (by omega)
              have g2 : decide (n < ol + tl) = false := decide_eq_false hlt
              have HK := Lib.hid (HK3.out.trans (hlf.st.bel.mono (by have := HK3.out.size; have := HB0.out; omega)))
              clear hlf hli hin hinl hLn hbl
              go_wp2
              go_ret
              exact ⟨rfl, by rw [HB0.out]; exact HK.out⟩
set_option maxRecDepth 100000 in
set_option maxHeartbeats 1000000 in
theorem lf_long (HS : SetC) (HP : PutC) (HA : AllC) (w : World) (A0 A1 A2 : Option Addr) (k0 k1 k2 sl ol tl : Nat) (t0 t1 t2 : Bool) (f0 : decide ((20 : Int) < (sl : Int)) = t0) (f1 : decide ((40 : Int) < (ol : Int)) = t1) (f2 : decide ((40 : Int) < (tl : Int)) = t2) (hf : t0 = true ∨ (t0 = false ∧ t1 = true) ∨ (t0 = false ∧ t1 = false ∧ t2 = true)) :
    Calls Try.prog 3 #[.slice A0 sl k0, .slice A1 ol k1, .slice A2 tl k2] w fun e w' => e = .returned (.bool true) ∧ Below w.heap.size w w' := by
  have HUP := Lib.hid (up9_any HS HP HA)
  clear HS HP HA
  rcases hf with rfl | ⟨rfl, rfl⟩ | ⟨rfl, rfl, rfl⟩
  · go_enter Try.func3, Try.ntmps3
    go_wp2_with fail
    refine (HUP.out _).mono ?_
    rintro e w1 ⟨rfl, hb⟩
    have HK := Lib.hid hb
    clear hb
    go_wp2
    go_ret
    exact ⟨rfl, HK.out⟩
  · go_enter Try.func3, Try.ntmps3
    go_wp2_with fail
    refine (HUP.out _).mono ?_
    rintro e w1 ⟨rfl, hb⟩
    have HK := Lib.hid hb
    clear hb
    go_wp2
    go_ret
    exact ⟨rfl, HK.out⟩
  · go_enter Try.func3, Try.ntmps3
    go_wp2_with fail
    refine (HUP.out _).mono ?_
    rintro e w1 ⟨rfl, hb⟩
    have HK := Lib.hid hb
    clear hb
    go_wp2
    go_ret
    exact ⟨rfl, HK.out⟩

theorem lf_any (HS : SetC) (HP : PutC) (HT : TakeC) (HA : AllC) (w : World) (A0 : Option Addr) (k0 : Nat) (ls : List Int) (hI0 : IRd w w.heap.size A0 ls) (A1 : Option Addr) (k1 : Nat) (os : List Int) (hI1 : IRd w w.heap.size A1 os) (A2 : Option Addr) (k2 : Nat) (ts : List Int) (hI2 : IRd w w.heap.size A2 ts) :
    Calls Try.prog 3 #[.slice A0 ls.length k0, .slice A1 os.length k1, .slice A2 ts.length k2] w fun e w' => e = .returned (.bool true) ∧ Below w.heap.size w w' := by
  by_cases h : ls.length ≤ 20 ∧ os.length ≤ 40 ∧ ts.length ≤ 40
  · exact lf_main HS HP HT HA w A0 k0 ls hI0 h.1 A1 k1 os hI1 h.2.1 A2 k2 ts hI2 h.2.2
  · refine lf_long HS HP HA w A0 A1 A2 k0 k1 k2 ls.length os.length ts.length _ _ _ rfl rfl rfl ?_
    simp only [decide_eq_true_eq, decide_eq_false_iff_not]
    omega
end Go.Proofs.Ytdhlfhpgfdpjbaa
