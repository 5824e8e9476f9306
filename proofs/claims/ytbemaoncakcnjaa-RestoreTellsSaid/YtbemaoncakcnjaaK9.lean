/- Texts of mine, joined: Hm1, Hm3, Hm4, Hm5, Hm6, Hm7, HpM4, HpM9, HpD, HpM13, HpM15, HpZ, HpM16, TakM, Tak2, Law12a, Law12c, Hm12. -/
import Derived.Deep.Cut
import Derived.Test.YtbemaoncakcnjaaK8

/- The document's heap in memory: how it lies there; Len, At, Used. -/
namespace Go.Proofs.Ytbemaoncakcnjaa
open Go.RowKit

/-- At block p lies a heap: its blocks, its slices of bytes, its lists, each in rows of its own; all of it in the blocks F. -/
structure Hm (F : Nat → Prop) (w : World) (p : Nat) (H : Hp) (Vb Vd : Value) (gl : Nat) (cs : List Value) : Prop where
  obj : w.heap[p]? = some (.cells #[.int .i64 (H.cap : Int), Vb, Vd, .slice (some ⟨gl, 0, none⟩) 22 22] 72 (0, 0))
  ob : w.ownsRow 0 65 3 Vb H.blks.length (flatK H.blks)
  od : w.ownsRow 0 44 1 Vd H.ds.length (H.ds.map Prod.fst)
  row : w.heap[gl]? = some (.cells cs.toArray 84 (0, 0))
  len : cs.length = 22
  at_ : ∀ d, d < 22 → ∃ v, cs[d]? = some v ∧ w.ownsRow 0 3 1 v (H.lists d).length ((H.lists d).map iV)
  fp : F p
  fl : F gl
  fb : ∀ k, Vb.ownBlock = some k → F k
  fd : ∀ k, Vd.ownBlock = some k → F k
  fi : ∀ d v k, d < 22 → cs[d]? = some v → v.ownBlock = some k → F k
  sl : ∀ d ∈ H.ds, ∃ A n c, d.1 = .slice A n c
/-- The same, where its parts lie left open. -/
def HM (F : Nat → Prop) (w : World) (p : Nat) (H : Hp) : Prop := ∃ Vb Vd gl cs, Hm F w p H Vb Vd gl cs
/-- Since w only blocks of the heap have changed, and it has become another. -/
def HT (F : Nat → Prop) (w : World) (p : Nat) (H' : Hp) (w' : World) : Prop := ∃ F', HM F' w' p H' ∧ Tch F w w' ∧ ∀ k, F' k → F k ∨ w.heap.size ≤ k

theorem own_keep {w w' : World} {base n size : Nat} {t : TypeId} {v : Value} {xs : List Value} (h : w.ownsRow base t size v n xs) (hk : ∀ k, v.ownBlock = some k → w'.heap[k]? = w.heap[k]?) : w'.ownsRow base t size v n xs := by
  refine ⟨h.1, ?_⟩
  rcases h.2 with h2 | ⟨g, cap, cur, hv, hg, hh, r⟩
  · exact .inl h2
  · exact .inr ⟨g, cap, cur, hv, hg, (hk g (by rw [hv]; rfl)).trans hh, r⟩
theorem own_base {w : World} {base base' n size : Nat} {t : TypeId} {v : Value} {xs : List Value} (h : w.ownsRow base t size v n xs) (hb : base' ≤ base) : w.ownsRow base' t size v n xs := by
  refine ⟨h.1, ?_⟩
  rcases h.2 with h2 | ⟨g, cap, cur, hv, hg, r⟩
  · exact .inl h2
  · exact .inr ⟨g, cap, cur, hv, Nat.le_trans hb hg, r⟩
/-- Rows of two types are two blocks. -/
theorem own_two {w : World} {base n size : Nat} {t t' : TypeId} {v : Value} {xs : List Value} {g : Nat} {o : Array Value} (h : w.ownsRow base t size v n xs) (hg : w.heap[g]? = some (.cells o t' (0, 0))) (ht : t ≠ t') : ∀ k, v.ownBlock = some k → k ≠ g := fun k hk e => by
  subst e
  rcases h.2 with ⟨rfl, _⟩ | ⟨g, cap, cur, rfl, _, hh, _⟩
  · cases hk
  · injection hk with hk
    have hk : g = k := hk
    subst hk
    rw [hh] at hg
    injection hg with hg
    injection hg with _ hg _
    exact ht hg
theorem own_lt {w : World} {base n size : Nat} {t : TypeId} {v : Value} {xs : List Value} (h : w.ownsRow base t size v n xs) {k : Nat} (hk : v.ownBlock = some k) : k < w.heap.size := (h.lt k hk).2

section
variable {F F' : Nat → Prop} {w w' w2 : World} {p gl : Nat} {H H' : Hp} {Vb Vd : Value} {cs : List Value}
theorem Hm.lt (h : Hm F w p H Vb Vd gl cs) : p < w.heap.size := heap_lt h.obj
theorem Hm.c0 (h : Hm F w p H Vb Vd gl cs) : w.cell? ⟨p, 0, none⟩ = some (.int .i64 (H.cap : Int)) := by rw [cell_of_row w p 0 _ _ (0, 0) h.obj]; rfl
theorem Hm.c1 (h : Hm F w p H Vb Vd gl cs) : w.cell? ⟨p, 1, none⟩ = some Vb := by rw [cell_of_row w p 1 _ _ (0, 0) h.obj]; rfl
theorem Hm.c3 (h : Hm F w p H Vb Vd gl cs) : w.cell? ⟨p, 3, none⟩ = some (.slice (some ⟨gl, 0, none⟩) 22 22) := by rw [cell_of_row w p 3 _ _ (0, 0) h.obj]; rfl
theorem Hm.thaw (h : Hm F w p H Vb Vd gl cs) (i : Nat) : w.frozen? ⟨p, i, none⟩ = false := frozen_of_row w p i _ _ h.obj
/-- Nothing of it has changed. -/
theorem Hm.keep (h : Hm F w p H Vb Vd gl cs) (hk : ∀ k, F k → w'.heap[k]? = w.heap[k]?) : Hm F w' p H Vb Vd gl cs :=
  ⟨(hk p h.fp).trans h.obj, own_keep h.ob (fun k e => hk k (h.fb k e)), own_keep h.od (fun k e => hk k (h.fd k e)), (hk gl h.fl).trans h.row, h.len,
   fun d hd => by obtain ⟨v, h1, h2⟩ := h.at_ d hd; exact ⟨v, h1, own_keep h2 (fun k e => hk k (h.fi d v k hd h1 e))⟩, h.fp, h.fl, h.fb, h.fd, h.fi, h.sl⟩
/-- The blocks that it really has. -/
def feet (p gl : Nat) (Vb Vd : Value) (cs : List Value) (k : Nat) : Prop := k = p ∨ k = gl ∨ Vb.ownBlock = some k ∨ Vd.ownBlock = some k ∨ ∃ d v, d < 22 ∧ cs[d]? = some v ∧ v.ownBlock = some k
theorem Hm.tight (h : Hm F w p H Vb Vd gl cs) : Hm (feet p gl Vb Vd cs) w p H Vb Vd gl cs :=
  ⟨h.obj, h.ob, h.od, h.row, h.len, h.at_, .inl rfl, .inr (.inl rfl), fun _ e => .inr (.inr (.inl e)), fun _ e => .inr (.inr (.inr (.inl e))), fun d v _ hd h1 e => .inr (.inr (.inr (.inr ⟨d, v, hd, h1, e⟩))), h.sl⟩
theorem Hm.feetF (h : Hm F w p H Vb Vd gl cs) {k : Nat} (hk : feet p gl Vb Vd cs k) : F k := by
  rcases hk with rfl | rfl | e | e | ⟨d, v, hd, h1, e⟩
  · exact h.fp
  · exact h.fl
  · exact h.fb k e
  · exact h.fd k e
  · exact h.fi d v k hd h1 e
theorem Hm.feet_lt (h : Hm F w p H Vb Vd gl cs) {k : Nat} (hk : feet p gl Vb Vd cs k) : k < w.heap.size := by
  rcases hk with rfl | rfl | e | e | ⟨d, v, hd, h1, e⟩
  · exact h.lt
  · exact heap_lt h.row
  · exact own_lt h.ob e
  · exact own_lt h.od e
  · obtain ⟨v', h1', h2⟩ := h.at_ d hd
    rw [h1] at h1'
    injection h1' with h1'
    subst h1'
    exact own_lt h2 e
theorem Hm.below (h : Hm F w p H Vb Vd gl cs) (hb : Below w.heap.size w w') : Hm F w' p H Vb Vd gl cs := by
  have h1 := h.tight.keep (w' := w') (fun k hk => hb.block k (h.feet_lt hk))
  exact ⟨h1.obj, h1.ob, h1.od, h1.row, h1.len, h1.at_, h.fp, h.fl, h.fb, h.fd, h.fi, h.sl⟩
theorem HM.below (h : HM F w p H) (hb : Below w.heap.size w w') : HM F w' p H := by
  obtain ⟨Vb, Vd, gl, cs, h⟩ := h
  exact ⟨Vb, Vd, gl, cs, h.below hb⟩
/-- A block's cells. -/
theorem own_blk {w : World} {n : Nat} {V : Value} {l : List Bk} (h : w.ownsRow 0 65 3 V n (flatK l)) {i : Nat} {x : Bk} (hx : l[i]? = some x) : ∃ b c, V = .slice (some ⟨b, 0, none⟩) n c ∧ b < w.heap.size ∧ n = l.length ∧ n ≤ c ∧ (w.cell? ⟨b, i * 3, none⟩ = some (.int .i64 (x.off : Int)) ∧ w.cell? ⟨b, i * 3 + 1, none⟩ = some (.int .i64 (x.size : Int)) ∧ w.cell? ⟨b, i * 3 + 2, none⟩ = some (.bool x.used)) ∧ ∀ j, w.frozen? ⟨b, j, none⟩ = false := by
  have hi : i < l.length := by
    rcases Nat.lt_or_ge i l.length with h' | h'
    · exact h'
    · rw [List.getElem?_eq_none h'] at hx; cases hx
  have hn : n = l.length := by
    have h1 := h.1
    rw [flatK_length] at h1
    omega
  rcases h.2 with ⟨_, h0⟩ | ⟨b, c, cur, rfl, _, hh, hnc, _⟩
  · omega
  · obtain ⟨f0, f1, f2⟩ := flatK_get l i x hx
    refine ⟨b, c, rfl, heap_lt hh, hn, hnc, ⟨?_, ?_, ?_⟩, fun j => frozen_of_row w b j _ _ hh⟩
    · rw [h.cellAt _ (by omega)]; exact f0
    · rw [h.cellAt _ (by omega)]; exact f1
    · rw [h.cellAt _ (by omega)]; exact f2
end
end Go.Proofs.Ytbemaoncakcnjaa

/- The contracts of the document's heap: in, out. -/
namespace Go.Proofs.Ytbemaoncakcnjaa
open Go.RowKit

section
variable {F : Nat → Prop} {w w' : World} {p gl : Nat} {H : Hp} {Vb Vd : Value} {cs : List Value}
/-- One list is another. -/
theorem Hm.lset (h : Hm F w p H Vb Vd gl cs) {d : Nat} (hd : d < 22) (v : Value) (l : List Nat) (hown : w.ownsRow 0 3 1 v l.length (l.map iV)) :
    Hm (fun k => F k ∨ v.ownBlock = some k) (w.setCell ⟨gl, d, none⟩ v) p { H with lists := setL H.lists d l } Vb Vd gl (cs.set d v) := by
  have hk : ∀ k, k ≠ gl → (w.setCell ⟨gl, d, none⟩ v).heap[k]? = w.heap[k]? := fun k hk => Below.heap_setCell w ⟨gl, d, none⟩ v k hk
  have hpg : p ≠ gl := fun e => by
    have h1 := h.obj
    rw [e, h.row] at h1
    injection h1 with h1
    injection h1 with _ h1 _
    exact absurd h1 (by decide)
  refine ⟨(hk p hpg).trans h.obj, own_keep h.ob (fun k e => hk k (own_two h.ob h.row (by decide) k e)), own_keep h.od (fun k e => hk k (own_two h.od h.row (by decide) k e)), ?_, by rw [List.length_set]; exact h.len, fun e he => ?_, .inl h.fp, .inl h.fl, fun k e => .inl (h.fb k e), fun k e => .inl (h.fd k e), fun e u k he hu hk => ?_, h.sl⟩
  · have := heap_setCell_same w gl d _ _ v h.row
    rw [this]
    simp
  · by_cases hed : e = d
    · subst hed
      refine ⟨v, by rw [List.getElem?_set_self (by rw [h.len]; exact hd)], ?_⟩
      have e2 : setL H.lists e l e = l := by simp [setL]
      dsimp only
      rw [e2]
      exact own_keep hown (fun k e => hk k (own_two hown h.row (by decide) k e))
    · obtain ⟨u, h1, h2⟩ := h.at_ e he
      have e2 : setL H.lists d l e = H.lists e := by simp [setL, hed]
      refine ⟨u, by rw [List.getElem?_set_ne (fun h => hed h.symm)]; exact h1, ?_⟩
      dsimp only
      rw [e2]
      exact own_keep h2 (fun k e => hk k (own_two h2 h.row (by decide) k e))
  · by_cases hed : e = d
    · subst hed
      rw [List.getElem?_set_self (by rw [h.len]; exact hd)] at hu
      injection hu with hu
      subst hu
      exact .inr hk
    · rw [List.getElem?_set_ne (fun h => hed h.symm)] at hu
      exact .inl (h.fi e u k he hu hk)
theorem Hm.lcell (h : Hm F w p H Vb Vd gl cs) {d : Nat} (hd : d < 22) : ∃ A c, w.cell? ⟨gl, d, none⟩ = some (.slice A (H.lists d).length c) ∧ w.ownsRow 0 3 1 (.slice A (H.lists d).length c) (H.lists d).length ((H.lists d).map iV) := by
  obtain ⟨v, h1, h2⟩ := h.at_ d hd
  obtain ⟨A, c, rfl⟩ := own_sl h2
  refine ⟨A, c, ?_, h2⟩
  rw [cell_of_row w gl d _ _ (0, 0) h.row]
  simpa using h1
theorem own_rw {A : Option Addr} {c : Nat} {l : List Nat} (h : w.ownsRow 0 3 1 (.slice A l.length c) l.length (l.map iV)) : Rw (fun _ => False) w A l ∧ (A = none → c = 0) := rw_own h rfl (fun _ _ => id)
theorem rw_src {S : Nat → Prop} {A : Option Addr} {c : Nat} {l : List Nat} (h : Rw S w A l) (hA : A = none → c = 0) : Src w A l.length c (l.map iV) := by
  refine ⟨fun e => ?_, fun ad e => by subst e; exact rw_cells h⟩
  subst e
  have h0 : l.length = 0 := by
    rcases Nat.eq_zero_or_pos l.length with h0 | h0
    · exact h0
    · obtain ⟨_, _, e, _⟩ := h h0
      cases e
  obtain rfl : l = [] := List.eq_nil_of_length_eq_zero h0
  exact ⟨rfl, hA rfl, rfl⟩
set_option maxHeartbeats 1000000 in
theorem hin_any (h : Hm F w p H Vb Vd gl cs) (i : Nat) (hi : i < H.blks.length) (hs : isSz ((bkAt H.blks i).size : Int) = true) (hll : ∀ d, d < 22 → (H.lists d).length ≤ 100000) :
    Calls Try.prog 52 #[.pointer (some ⟨p, 0, none⟩), .int .i64 (i : Int)] w fun e w' => e = .returned (.tuple #[]) ∧ HT F w p (H.in_ i) w' := by
  obtain ⟨cl, hcl, hcl22⟩ := class_nat hs
  have hget := bkAt_get hi
  have hIN : H.in_ i = { H with lists := setL H.lists cl ((bkAt H.blks i).off :: H.lists cl) } := by
    unfold Hp.in_ clsB
    rw [hcl, Int.toNat_natCast]
  rw [hIN]
  obtain ⟨b, c, rfl, hb, _, hnc, ⟨d0, d1, _⟩, _⟩ := own_blk h.ob hget
  have hss := (isSz_iff _).1 hs
  have c1 := h.c1
  have hii : (i : Int) < (H.blks.length : Int) := by omega
  have hplt := h.lt
  obtain ⟨xo, hxo⟩ : ∃ xo, (bkAt H.blks i).off = xo := ⟨_, rfl⟩
  obtain ⟨xs, hxs⟩ : ∃ xs, (bkAt H.blks i).size = xs := ⟨_, rfl⟩
  rw [hxo] at d0 ⊢
  rw [hxs] at d1 hcl hss
  obtain ⟨wd, hwd⟩ : ∃ wd, w.drew = wd := ⟨_, rfl⟩
  have hd := h.below (w' := wd) (by rw [← hwd]; exact (Below.refl _ _).drew)
  have hsz : w.heap.size = wd.heap.size := by rw [← hwd]; rfl
  have hbd : Below w.heap.size w wd := by rw [← hwd]; exact (Below.refl _ _).drew
  obtain ⟨A, cc, hcell, hlo⟩ := hd.lcell hcl22
  have hrw := own_rw hlo
  have hgl := heap_lt hd.row
  have hci : (cl : Int) < 22 := by omega
  have HL := Lib.hid (hll cl hcl22)
  have HD := Lib.hid hd
  have HWD := Lib.hid hwd
  have HRW := Lib.hid hrw
  have HBD := Lib.hid hbd
  have HCL := Lib.hid (fun W => rclass_any W (xs : Int) (by omega) (cl : Int) hcl)
  have HSZ := Lib.hid hsz
  have e0 := (World.cell?_of_block (w := w) (w' := wd) (a := ⟨b, i * 3, none⟩) (by rw [← hwd]; rfl)).trans d0
  have e1 := (World.cell?_of_block (w := w) (w' := wd) (a := ⟨p, 1, none⟩) (by rw [← hwd]; rfl)).trans c1
  have e3 := hd.c3
  have hbd' : b < wd.heap.size := by omega
  have hpd' : p < wd.heap.size := by omega
  obtain ⟨n, hN⟩ : ∃ n, H.blks.length = n := ⟨_, rfl⟩
  rw [hN] at c1 e1 hii hnc
  obtain ⟨LL, hLL⟩ : ∃ LL, H.lists cl = LL := ⟨_, rfl⟩
  rw [hLL] at HL HRW hcell
  have HLL := Lib.hid hLL
  clear hxo hxs hwd hd hbd hrw hget hs hcl hIN hlo h hsz hN hll
  go_enter Try.func52, Try.ntmps52
  go_wp2_with fail
  refine (HCL.out _).mono ?_
  rintro e w2 ⟨rfl, rfl⟩
  clear HCL d0 d1 c1
  go_wp2_with fail
  refine wp_region_plan wd.heap.size (.one [0, 1, 2, 3, 4, 5, 6, 7, 8, 9, 10, 11, 12, 14, 15, 16, 17, 18, 19, 20] 13 (.one [] 21 (.fin [22]))) [23] (by kernel_rfl) (by kernel_rfl) (by kernel_rfl) (fun _ _ _ _ _ h => h) ?_
  rw [HWD.out]
  have t0 : ∀ z : LaterB wd.heap.size wd, z.val.cell? ⟨b, i * 3, none⟩ = some (.int .i64 (xo : Int)) := fun z => (z.ext.cell (p := ⟨b, i * 3, none⟩) hbd').trans e0
  have t1 : ∀ z : LaterB wd.heap.size wd, z.val.cell? ⟨p, 1, none⟩ = some (.slice (some ⟨b, 0, none⟩) n c) := fun z => (z.ext.cell (p := ⟨p, 1, none⟩) hpd').trans e1
  have t3 : ∀ z : LaterB wd.heap.size wd, z.val.cell? ⟨p, 3, none⟩ = some (.slice (some ⟨gl, 0, none⟩) 22 22) := fun z => (z.ext.cell (p := ⟨p, 3, none⟩) hpd').trans e3
  have t4 : ∀ z : LaterB wd.heap.size wd, z.val.cell? ⟨gl, cl, none⟩ = some (.slice A LL.length cc) := fun z => (z.ext.cell (p := ⟨gl, cl, none⟩) hgl).trans hcell
  refine plan_one (l := ?seg1) ?hseg1 ?_
  case hseg1 => simp only [pick, List.getElem?_toArray, List.getElem?_cons_succ, List.getElem?_cons_zero]; rfl
  repeat (go_big_quiet_step (fail))
  refine wpQuiet_nil ?_
  clear t0 t1 t3 t4
  obtain ⟨w6, hw6⟩ : ∃ w6, wd.alloc (.cells #[.int .i64 (xo : Int)] 3) = w6 := ⟨_, rfl⟩
  have b6 : Below wd.heap.size wd w6 := by rw [← hw6]; exact (Below.refl _ _).alloc (Nat.le_refl _) _
  have own6 : w6.ownsRow wd.heap.size 3 1 (.slice (some ⟨wd.heap.size, 0, none⟩) 1 1) 1 ([xo].map iV) := by rw [← hw6]; exact own_one wd xo
  refine tail_val2 (some 27) (w1 := w6) (v := .slice (some ⟨wd.heap.size, 0, none⟩) 1 1) rfl rfl rfl (by rw [← hw6]; exact bslice_run rfl rfl (run_one_int wd (xo : Int))) b6 ⟨wd.heap.size, Nat.le_refl _, ?_⟩
  have OWN6 := Lib.hid own6
  have HB6 := Lib.hid b6
  have b6s := b6.size
  have HRW6 := Lib.hid (HRW.out.1.keep (w' := w6) (S' := fun _ => False) b6.size (fun k hk hn => ⟨b6.block k hk, hn⟩))
  have HCELL := Lib.hid hcell
  clear own6 b6 hw6 hcell HWD e0 e1 e3
  simp only [Act.put, List.setIfInBounds_toArray, List.set_cons_zero, List.set_cons_succ]
  refine plan_one (l := []) rfl ?_
  refine wpQuiet_nil ?_
  refine tail_app (some 35) (.tmp 27) (.tmp 34) 84 3 rfl rfl rfl rfl Try.underlying84 (.int .i64 0) 1 8 int_inf rfl (by decide) wd.heap.size (.slice (some ⟨wd.heap.size, 0, none⟩) 1 1) 1 ([xo].map iV) rfl OWN6.out (Nat.le_refl _) b6s A LL.length cc (LL.map iV) rfl (by simp) (rw_src HRW6.out HRW.out.2) (iv_one LL) (by have := HL.out; omega) (by omega) ?_
  intro x7 w7 own7 hb7 gr7
  have HB7 : Hid (Below wd.heap.size wd w7) := HB6.out.trans hb7
  have OWN7 : Hid (w7.ownsRow wd.heap.size 3 1 x7 (1 + LL.length) ((xo :: LL).map iV)) := own7
  refine ⟨wd.heap.size, Nat.le_refl _, ?_⟩
  clear own7 gr7 hb7
  obtain ⟨A7', c7', rfl⟩ := own_sl OWN7.out
  have HD7 := Lib.hid (HD.out.below HB7.out)
  have q3 : w7.cell? ⟨gl, cl, none⟩ = some (.slice A LL.length cc) := by
    have h2 := (HB7.out.cell (p := ⟨gl, cl, none⟩) hgl)
    rw [h2]; exact HCELL.out
  have f3 := frozen_of_row w7 gl cl _ _ HD7.out.row
  have hg7 := heap_lt HD7.out.row
  refine plan_fin (l := ?laP) (t := ?tlP) ?hlaP ?htlP ?_
  case hlaP => simp only [pick, List.getElem?_toArray, List.getElem?_cons_succ, List.getElem?_cons_zero]; rfl
  case htlP => simp only [pick, List.getElem?_toArray, List.getElem?_cons_succ, List.getElem?_cons_zero]; rfl
  simp only [Act.put, List.setIfInBounds_toArray, List.set_cons_zero, List.set_cons_succ]
  repeat (go_big_quiet_step (fail))
  refine wpQuiet_nil ?_
  go_wp2
  go_end0
  refine ⟨rfl, ?_⟩
  have hown := own_base OWN7.out (Nat.zero_le _)
  have e8 : (xo :: LL).length = 1 + LL.length := by rw [List.length_cons, Nat.add_comm]
  have h8 := HD7.out.lset hcl22 (.slice A7' (1 + LL.length) c7') (xo :: LL) (by rw [e8]; exact hown)
  rw [HLL.out]
  refine ⟨_, ⟨_, _, _, _, h8⟩, ?_, fun k hk => ?_⟩
  · exact ((Tch.of_below (S := F) (HBD.out.trans (by rw [HSZ.out]; exact HB7.out))).trans (Tch.set w7 ⟨gl, cl, none⟩ _ HD7.out.fl) (fun _ _ h => h))
  · exact hk.imp id (fun e => by have := (OWN7.out.lt k e).1; have := HSZ.out; omega)

end
end Go.Proofs.Ytbemaoncakcnjaa

/- The contracts of the document's heap: drop, put. -/
namespace Go.Proofs.Ytbemaoncakcnjaa
open Go.RowKit

theorem sls_inf : (Try.prog.info? 44).map (fun i => (i.zero, i.size, i.bytes)) = some (some (.slice none 0 0), 1, 24) := by kernel_rfl
section
variable {F : Nat → Prop} {w w' : World} {p gl : Nat} {H : Hp} {Vb Vd : Value} {cs : List Value}
theorem set_p (w : World) (p i : Nat) (v : Value) : ∀ k, k ≠ p → (w.setCell ⟨p, i, none⟩ v).heap[k]? = w.heap[k]? := fun k hk => Below.heap_setCell w ⟨p, i, none⟩ v k hk
theorem Hm.p_gl (h : Hm F w p H Vb Vd gl cs) : gl ≠ p := fun e => by
  have h1 := h.obj
  rw [← e, h.row] at h1
  injection h1 with h1
  injection h1 with _ h1 _
  exact absurd h1 (by decide)
theorem own_nn {n size : Nat} {t : TypeId} {V : Value} {xs : List Value} (h : w.ownsRow 0 t size V n xs) (hn : 0 < n) : ∃ b c, V = .slice (some ⟨b, 0, none⟩) n c ∧ b < w.heap.size ∧ n ≤ c ∧ c ≤ maxLen := by
  rcases h.2 with ⟨_, h0⟩ | ⟨b, c, cur, rfl, _, hh, hnc, hm, _⟩
  · omega
  · exact ⟨b, c, rfl, heap_lt hh, hnc, hm⟩

end
end Go.Proofs.Ytbemaoncakcnjaa

/- The contract of the document's heap: put. -/
namespace Go.Proofs.Ytbemaoncakcnjaa
open Go.RowKit

theorem run_one_s (w : World) : (Instr.buildSlice 23 1 #[(0, .slice none 0 0)]).run Try.prog w = .ok (.slice (some ⟨w.heap.size, 0, none⟩) 1 1) (w.alloc (.cells #[.slice none 0 0] 44)) := by
  simp [go_sem]
section
variable {F : Nat → Prop} {w w' : World} {p gl : Nat} {H : Hp} {Vb Vd : Value} {cs : List Value}
end
end Go.Proofs.Ytbemaoncakcnjaa

/- The contract of the document's heap: put in all its ways; single cells of its rows; steps one behind the other. -/
namespace Go.Proofs.Ytbemaoncakcnjaa
open Go.RowKit

section
variable {F : Nat → Prop} {w w' : World} {p gl : Nat} {H : Hp} {Vb Vd : Value} {cs : List Value}
theorem own_at {n b c : Nat} {l : List Bk} (h : w.ownsRow 0 65 3 (.slice (some ⟨b, 0, none⟩) n c) n (flatK l)) {i : Nat} {x : Bk} (hx : l[i]? = some x) : (w.cell? ⟨b, i * 3, none⟩ = some (.int .i64 (x.off : Int)) ∧ w.cell? ⟨b, i * 3 + 1, none⟩ = some (.int .i64 (x.size : Int)) ∧ w.cell? ⟨b, i * 3 + 2, none⟩ = some (.bool x.used)) ∧ ∀ j, w.frozen? ⟨b, j, none⟩ = false := by
  obtain ⟨b', c', hv, _, _, _, h1, h2⟩ := own_blk h hx
  injection hv with e1 _ e3
  injection e1 with e1
  injection e1 with e1
  subst e1 e3
  exact ⟨h1, h2⟩

/-- Where a walk over a heap stands: begun at w with H in F, now at w'. -/
structure Hz (F : Nat → Prop) (w : World) (p : Nat) (F' : Nat → Prop) (w' : World) (H' : Hp) (Vb Vd : Value) (gl : Nat) (cs : List Value) : Prop where
  hm : Hm F' w' p H' Vb Vd gl cs
  tc : Tch F w w'
  sub : ∀ k, F' k → F k ∨ w.heap.size ≤ k
section
variable {F' F2 : Nat → Prop} {w2 : World} {H' H2 : Hp} {Vb2 Vd2 : Value} {gl2 : Nat} {cs2 : List Value}
theorem Hz.step (h : Hz F w p F' w' H' Vb Vd gl cs) (t : HT F' w' p H2 w2) : ∃ F2 Vb2 Vd2 gl2 cs2, Hz F w p F2 w2 H2 Vb2 Vd2 gl2 cs2 := by
  obtain ⟨F2, ⟨Vb2, Vd2, gl2, cs2, h2⟩, t2, f2⟩ := t
  refine ⟨F2, Vb2, Vd2, gl2, cs2, h2, h.tc.trans t2 (fun i hi h1 => ?_), fun j hj => ?_⟩
  · rcases h.sub i h1 with h | h
    · exact h
    · omega
  · rcases f2 j hj with h' | h'
    · exact h.sub j h'
    · exact .inr (Nat.le_trans h.tc.size h')
theorem Hz.fin (h : Hz F w p F' w' H' Vb Vd gl cs) : HT F w p H' w' := ⟨F', ⟨_, _, _, _, h.hm⟩, h.tc, h.sub⟩
end

end
end Go.Proofs.Ytbemaoncakcnjaa

/- The contract of the document's heap: give. -/
namespace Go.Proofs.Ytbemaoncakcnjaa
open Go.RowKit

section
variable {F : Nat → Prop} {w w' : World} {p gl : Nat} {H : Hp} {Vb Vd : Value} {cs : List Value}
/-- The cells of a block, where the row's length is named. -/
theorem Hm.at_n {n b c : Nat} (h : Hm F w p H (.slice (some ⟨b, 0, none⟩) n c) Vd gl cs) (hn : H.blks.length = n) {i : Nat} (hi : i < n) : w.cell? ⟨b, i * 3, none⟩ = some (.int .i64 ((bkAt H.blks i).off : Int)) ∧ w.cell? ⟨b, i * 3 + 1, none⟩ = some (.int .i64 ((bkAt H.blks i).size : Int)) ∧ w.cell? ⟨b, i * 3 + 2, none⟩ = some (.bool (bkAt H.blks i).used) := by
  have e := h.ob
  rw [hn] at e
  exact (own_at e (bkAt_get (by omega))).1

end
end Go.Proofs.Ytbemaoncakcnjaa

/- The document's heap, plain: in a right one the lists have just the free blocks; Take tells that there is no room just if there is none, and what it tells is apart from all that is used. No program in sight. -/
namespace Go.Proofs.Ytbemaoncakcnjaa

theorem nodup_count : ∀ {l : List Nat}, (∀ a ∈ l, l.count a = 1) → l.Nodup
  | [], _ => List.nodup_nil
  | x :: r, h => by
    have h1 := h x (by simp)
    rw [List.count_cons_self] at h1
    have hx : x ∉ r := List.count_eq_zero.1 (by omega)
    refine List.nodup_cons.2 ⟨hx, nodup_count fun a ha => ?_⟩
    have h2 := h a (by simp [ha])
    have hne : x ≠ a := fun e => hx (e ▸ ha)
    rw [List.count_cons_of_ne hne] at h2
    exact h2

section
variable {bs : List UInt8} {H : Hp}
theorem Rt.nfree (h : Rt bs H) : (∀ c, c < 22 → (H.lists c).Nodup ∧ ∀ o ∈ H.lists c, o ∈ freeL H.blks c) ∧ noAdj H.blks = true ∧ chkC bs H.blks 22 0 (cntFree H.blks) = true := by
  have hk := h.chk
  unfold checkB at hk
  rw [h.walk] at hk
  simp only [Bool.and_eq_true] at hk
  refine ⟨fun c hc => ?_, hk.2.1, hk.2.2⟩
  obtain ⟨al, h1, h2⟩ := chkC_true 22 0 _ hk.2.2 c (Nat.zero_le _) (by omega)
  rw [h.all_ c hc] at h1
  injection h1 with h1
  subst h1
  have h2' := List.all_eq_true.1 h2
  refine ⟨nodup_count fun a ha => ?_, fun o ho => ?_⟩
  · have := h2' a ha
    unfold okO at this
    rw [Bool.and_eq_true] at this
    simpa using this.2
  · have h3 := h2' o ho
    unfold okO at h3
    rw [Bool.and_eq_true] at h3
    have h4 := h3.1
    unfold foundB at h4
    obtain ⟨x, hx, hx2⟩ := List.any_eq_true.1 h4
    simp only [Bool.and_eq_true, beq_iff_eq] at hx2
    have hm := allB_member (h.all_ c hc) o ho
    have hg := (walkB_tiles h.walk).2.2 x hx
    unfold memberB at hm
    rw [← hx2.1, hg] at hm
    simp only [Bool.and_eq_true, beq_iff_eq] at hm
    rw [← hx2.1]
    exact mem_freeL hx (by simpa using hx2.2) hm.2.2
end
end Go.Proofs.Ytbemaoncakcnjaa

/- The document's heap, plain: bytes within used blocks are no matter; marks in them. No program in sight. -/
namespace Go.Proofs.Ytbemaoncakcnjaa

/-- The same bytes but within a block, between its tags. -/
def AgreeB (bs bs' : List UInt8) (x : Bk) : Prop := bs'.length = bs.length ∧ ∀ q, (q < x.off + 8 ∨ x.off + x.size ≤ q + 8) → bs'[q]? = bs[q]?
section
variable {bs bs' : List UInt8} {H : Hp} {x : Bk}
/-- A stretch laid within a block. -/
theorem agree_lay (d : Nat) (cs : List UInt8) (h1 : x.off + 8 ≤ d) (h2 : d + cs.length + 8 ≤ x.off + x.size) (h3 : x.off + x.size ≤ bs.length) : AgreeB bs (lay bs d cs) x := by
  have hle : d ≤ bs.length := by omega
  refine ⟨?_, fun q hq => ?_⟩
  · unfold lay
    simp only [List.length_append, List.length_take, List.length_drop]
    omega
  · unfold lay
    rcases Nat.lt_or_ge q d with h | h
    · rw [List.getElem?_append_left (by rw [List.length_take]; omega), List.getElem?_take_of_lt h]
    · have hq2 : d + cs.length ≤ q := by omega
      rw [List.getElem?_append_right (by rw [List.length_take]; omega), List.length_take, List.getElem?_append_right (by omega), List.getElem?_drop]
      congr 1
      omega
theorem lay_in (bs : List UInt8) (d : Nat) (cs : List UInt8) (hd : d ≤ bs.length) (k : Nat) (hk : k < cs.length) : (lay bs d cs)[d + k]? = cs[k]? := by
  unfold lay
  rw [List.getElem?_append_right (by rw [List.length_take]; omega), List.length_take, List.getElem?_append_left (by omega), show d + k - min d bs.length = k by omega]
end
end Go.Proofs.Ytbemaoncakcnjaa

/- The document's heap, plain: handles, lists made anew, what a block holds made as long as it is; what getting, and another size of a handle come to. No program in sight. -/
namespace Go.Proofs.Ytbemaoncakcnjaa

/-- All lists made anew, of the first j blocks. -/
def rebH (H : Hp) : Nat → Hp
  | 0 => { H with lists := fun _ => [] }
  | j + 1 => if (bkAt H.blks j).used = true then rebH H j else (rebH H j).in_ j
def Hp.rebuild (H : Hp) : Hp := rebH H H.blks.length
theorem rebH_same (H : Hp) : ∀ j, (rebH H j).blks = H.blks ∧ (rebH H j).ds = H.ds ∧ (rebH H j).cap = H.cap
  | 0 => ⟨rfl, rfl, rfl⟩
  | j + 1 => by
    unfold rebH
    split
    · exact rebH_same H j
    · exact rebH_same H j
theorem rebH_few (H : Hp) : ∀ j, (rebH H j).Few j
  | 0 => fun d _ => Nat.le_refl _
  | j + 1 => by
    unfold rebH
    split
    · exact (rebH_few H j).more (Nat.le_succ _)
    · exact (rebH_few H j).in_
end Go.Proofs.Ytbemaoncakcnjaa

/- The document's heap, plain: each used block holds what it held, whatever is given, cut, taken, resized. No program in sight. -/
namespace Go.Proofs.Ytbemaoncakcnjaa

/-- The j-th block, and what it holds. -/
def Hp.At (H : Hp) (j : Nat) (x : Bk) (d : Dt) : Prop := H.blks[j]? = some x ∧ H.ds[j]? = some d
section
variable {H : Hp} {i j k s : Nat} {x : Bk} {d : Dt}
end
end Go.Proofs.Ytbemaoncakcnjaa

/- The document's heap, plain: a heap in bytes whose used blocks hold what they are to hold: kept by giving, getting, resizing, writing. No program in sight. -/
namespace Go.Proofs.Ytbemaoncakcnjaa

/-- What the used blocks hold lies in the bytes. -/
def Holds (bs : List UInt8) (H : Hp) : Prop := ∀ j x d, H.At j x d → x.used = true → d.2.length + 16 = x.size ∧ ∀ k, k < d.2.length → bs[x.off + 8 + k]? = d.2[k]?
structure RtD (bs : List UInt8) (H : Hp) : Prop where
  rt : Rt bs H
  dl : H.Dl
  ho : Holds bs H
section
variable {bs out : List UInt8} {H H' : Hp} {s : Nat}
end
end Go.Proofs.Ytbemaoncakcnjaa

/- The document's heap, plain: one without blocks; lists made anew; one out of any bytes that are right. No program in sight. -/
namespace Go.Proofs.Ytbemaoncakcnjaa

theorem rebH_lists (H : Hp) (hs : ∀ x ∈ H.blks, isSz (x.size : Int) = true) (c : Nat) : ∀ j, j ≤ H.blks.length → (rebH H j).lists c = freeL (H.blks.take j) c
  | 0, _ => by rw [List.take_zero]; rfl
  | j + 1, hj => by
    have ih := rebH_lists H hs c j (by omega)
    have hx := bkAt_get (l := H.blks) (i := j) (by omega)
    obtain ⟨x, hxe⟩ : ∃ x, bkAt H.blks j = x := ⟨_, rfl⟩
    rw [hxe] at hx
    obtain ⟨k, hk, hk22⟩ := class_nat (hs x (List.mem_of_getElem? hx))
    have ht : H.blks.take (j + 1) = H.blks.take j ++ [x] := by rw [List.take_add_one, hx]; rfl
    rw [ht, freeL_snoc]
    unfold rebH
    rw [hxe]
    cases hu : x.used with
    | true => rw [if_pos rfl, if_neg (by intro h; cases h.1)]; exact ih
    | false =>
      rw [if_neg (by decide)]
      show setL (rebH H j).lists (clsB (bkAt (rebH H j).blks j)) ((bkAt (rebH H j).blks j).off :: (rebH H j).lists (clsB (bkAt (rebH H j).blks j))) c = _
      rw [(rebH_same H j).1, hxe]
      have hcl : clsB x = k := by unfold clsB; rw [hk]; rfl
      rw [hcl]
      unfold setL
      by_cases e : c = k
      · subst e
        rw [if_pos rfl, if_pos ⟨rfl, hk⟩, ih]
      · rw [if_neg e, if_neg (by intro h; apply e; have := h.2; rw [hk] at this; omega)]
        exact ih
theorem tile_few : ∀ (l : List Bk) (o e : Nat), tile o l e → o + l.length * 32 ≤ e
  | [], o, e, h => by simp [tile] at h; simp; omega
  | x :: r, o, e, h => by
    obtain ⟨h1, h2, h3⟩ := h
    have := tile_few r _ e h3
    have q := (isSz_iff _).1 h2
    rw [List.length_cons]
    omega
theorem blks_few {l : List Bk} {e : Nat} (h : tile 184 l e) (he : e ≤ 16384) : l.length ≤ 512 := by
  have := tile_few _ _ _ h
  omega
/-- What each used block holds, out of the bytes. -/
def dsOf (bs : List UInt8) (l : List Bk) : List Dt := l.map fun x => (.slice none 0 0, (bs.drop (x.off + 8)).take (x.size - 16))
theorem rtd_of {bs : List UInt8} {cap : Nat} (hk : checkB bs = true) (hl : bs.length ≤ cap) : ∃ H : Hp, RtD bs H ∧ H.cap = cap := by
  have hk' := hk
  unfold checkB at hk
  cases hw : walkB bs with
  | none => rw [hw] at hk; cases hk
  | some l =>
    rw [hw] at hk
    simp only [Bool.and_eq_true] at hk
    have ht := (walkB_tiles hw).2.1
    refine ⟨⟨cap, l, dsOf bs l, fun c => (allB bs c).getD []⟩, ⟨⟨hw, fun c hc => ?_, hk', hl⟩, List.length_map _, fun j x d ha _ => ?_⟩, rfl⟩
    · obtain ⟨al, h1, _⟩ := chkC_true 22 0 _ hk.2.2 c (Nat.zero_le _) (by omega)
      show allB bs c = some ((allB bs c).getD [])
      rw [h1]; rfl
    · obtain ⟨h1, h2⟩ := ha
      have h1 : l[j]? = some x := h1
      have h2 : (l.map fun x => ((.slice none 0 0, (bs.drop (x.off + 8)).take (x.size - 16)) : Dt))[j]? = some d := h2
      rw [List.getElem?_map, h1] at h2
      injection h2 with h2
      subst h2
      have hm := (tile_mem _ _ _ ht).2 x (List.mem_of_getElem? h1)
      have hq := (isSz_iff _).1 hm.2.2.1
      refine ⟨?_, fun k hk => ?_⟩
      · dsimp only
        rw [List.length_take, List.length_drop]
        omega
      · dsimp only at hk ⊢
        rw [List.length_take] at hk
        rw [List.getElem?_take_of_lt (by omega), List.getElem?_drop]
end Go.Proofs.Ytbemaoncakcnjaa

/- The document's heap, plain: what a call comes to: a reply, and the heap then; where slices lie is no matter. No program in sight. -/
namespace Go.Proofs.Ytbemaoncakcnjaa

/-- Used ones, free ones, bytes that are usable. -/
def statL : List Bk → Nat × Nat × Nat
  | [] => (0, 0, 0)
  | x :: r => if x.used = true then ((statL r).1 + 1, (statL r).2.1, (statL r).2.2 + (x.size - 16)) else ((statL r).1, (statL r).2.1 + 1, (statL r).2.2)
/-- Stats: used, free, bytes, length, capacity. -/
structure St5 where
  used : Nat
  free : Nat
  bytes : Nat
  len : Nat
  cap : Nat
def Hp.stats (H : Hp) : St5 := ⟨(statL H.blks).1, (statL H.blks).2.1, (statL H.blks).2.2, lenB H.blks, H.cap⟩
section
variable {H : Hp}
end
end Go.Proofs.Ytbemaoncakcnjaa

/- Taking and giving back, plain: what laying tags does to lists; a heap in bytes on the way, with lists that may lack a block. No program in sight. -/
namespace Go.Proofs.Ytbemaoncakcnjaa

section
variable {bs : List UInt8} {P Q : List Bk} {L : Nat → List Nat}
end
/-- From one on, all of a class are linked. -/
theorem allF_links {bs : List UInt8} {c : Nat} : ∀ (k last p : Nat) (l : List Nat), allF bs c k last p = some l → link bs last l 0 ∧ l.headD 0 = p
  | k, last, p, l, h => by
    unfold allF at h
    by_cases hp : p = 0
    · rw [if_pos hp] at h
      injection h with h
      subst h
      exact ⟨trivial, hp.symm⟩
    · rw [if_neg hp] at h
      cases k with
      | zero => cases h
      | succ k =>
        dsimp only at h
        split at h
        · rename_i hc
          cases hr : allF bs c k p (wordN bs (p + 8)) with
          | none => rw [hr] at h; cases h
          | some r =>
            rw [hr] at h
            injection h with h
            subst h
            obtain ⟨i1, i2⟩ := allF_links k _ _ r hr
            exact ⟨⟨hc.2, i2.symm, i1⟩, rfl⟩
        · cases h

/-- Bytes that are such a heap, its lists, which may lack a block. -/
structure Md (bs : List UInt8) (H : Hp) : Prop where
  tl : tile 184 H.blks bs.length
  ls : Lists bs H.blks H.lists
  hi : wordN bs 0 < 4194304
  len : bs.length ≤ H.cap
theorem Rt.md {bs : List UInt8} {H : Hp} (h : Rt bs H) (hc : H.cap ≤ 16384) : Md bs H := by
  obtain ⟨w1, w2, w3⟩ := walkB_tiles h.walk
  obtain ⟨n1, _, _⟩ := h.nfree
  have hl := h.len
  have hk := h.chk
  unfold checkB at hk
  rw [h.walk] at hk
  simp only [Bool.and_eq_true] at hk
  have h0 : wordN bs 0 < 4194304 := by
    have e0 : numO bs 0 = wordN bs 0 := by unfold numO word?; rw [if_pos (by omega)]; rfl
    rw [← e0]; exact of_decide_eq_true hk.1
  refine ⟨w2, ⟨w1, by omega, ⟨w3, tile_apart _ _ _ w2⟩, fun c hc => ?_, fun c hc => ?_, fun c hc o ho => freeL_mem ((n1 c hc).2 o ho), fun c hc => ?_, fun c hc => (n1 c hc).1⟩, h0, hl⟩
  · exact (allF_links _ _ _ _ (allB_bit (h.all_ c hc)).2).2.symm
  · obtain ⟨b1, b2⟩ := allB_bit (h.all_ c hc)
    have e := (allF_links _ _ _ _ b2).2
    rw [b1, ← e]
    cases hL : H.lists c with
    | nil => rfl
    | cons o r =>
      obtain ⟨x, hx, ex, _⟩ := freeL_mem ((n1 c hc).2 o (by rw [hL]; simp))
      have := ((tile_mem _ _ _ w2).2 x hx).1
      have : o ≠ 0 := by omega
      simp [this]
  · exact (allF_links _ _ _ _ (allB_bit (h.all_ c hc)).2).1
end Go.Proofs.Ytbemaoncakcnjaa

/- The program's giving back (layer 12): a used block becomes free, and one with its free neighbours. -/
namespace Go.Proofs.Ytbemaoncakcnjaa
open Go.RowKit

theorem Rt.bound {bs : List UInt8} {H : Hp} (h : Rt bs H) (hc : H.cap ≤ 16384) : bs.length ≤ 16384 ∧ ∀ y ∈ H.blks, 184 ≤ y.off ∧ 32 ≤ y.size ∧ y.off + y.size ≤ bs.length := by
  have hM := h.md hc
  refine ⟨hM.ls.small, fun y hy => ?_⟩
  have := hM.ls.st.facts hy
  omega

section
variable {w : World} {g base cap c : Nat} {A : Option Addr} {bs : List UInt8} {H : Hp}
end
end Go.Proofs.Ytbemaoncakcnjaa

/- How all stands in the laws of layers 12 and 13: an arena of the law's own, and the document's heap beside it. -/
namespace Go.Proofs.Ytbemaoncakcnjaa
open Go.RowKit

structure Al (wB W : World) (g base cap : Nat) (A : Option Addr) (c : Nat) (bs : List UInt8) (F : Nat → Prop) (p : Nat) (H : Hp) : Prop where
  st : St wB W g base cap A c bs []
  hm : HM F W p H
  lo : ∀ k, F k → wB.heap.size ≤ k
  hi : ∀ k, F k → k < W.heap.size
  ap : ∀ k, F k → ¬ foot g A k

section
variable {wB W W' : World} {g base cap c p : Nat} {A : Option Addr} {bs : List UInt8} {F : Nat → Prop} {H : Hp}
theorem HM.tight {w : World} (h : HM F w p H) : ∃ F', HM F' w p H ∧ (∀ k, F' k → F k) ∧ ∀ k, F' k → k < w.heap.size := by
  obtain ⟨Vb, Vd, gl, cs, h⟩ := h
  exact ⟨_, ⟨Vb, Vd, gl, cs, h.tight⟩, fun k hk => h.feetF hk, fun k hk => h.feet_lt hk⟩
theorem Al.below (h : Al wB W g base cap A c bs F p H) (hb : Below W.heap.size W W') : Al wB W' g base cap A c bs F p H :=
  ⟨h.st.below hb, h.hm.below hb, h.lo, fun k hk => Nat.lt_of_lt_of_le (h.hi k hk) hb.size, h.ap⟩
end
end Go.Proofs.Ytbemaoncakcnjaa

/- The laws' word of layer 12: Same. -/
namespace Go.Proofs.Ytbemaoncakcnjaa
open Go.RowKit

section
variable {wB W : World} {g base cap c p : Nat} {A : Option Addr} {bs : List UInt8} {F : Nat → Prop} {H : Hp}
set_option maxHeartbeats 4000000 in
theorem lsame_any (HW : WalkC) (HA : AllC) (HC : CheckC) (a : Al wB W g base cap A c bs F p H) (rt : Rt bs H) (hcap : H.cap = cap) (hbase : base ≤ 4611686018427387904) (hc16 : cap ≤ 16384) (hd : H.Dl) :
    Calls Try.prog 17 #[.pointer (some ⟨g, 0, none⟩), .pointer (some ⟨p, 0, none⟩)] W fun e w' => e = .returned (.int .i64 1) ∧ Below W.heap.size W w' := by
  have hlen : bs.length ≤ 16384 := Nat.le_trans (hcap ▸ rt.len) hc16
  have hn512 := (rt.ok (hcap ▸ hc16) hd).n
  have HWk := Lib.hid (HW W g base cap c A bs (some H.blks) a.st.ar hbase hlen rt.walk)
  have HLF := Lib.hid rt.few
  have HAl := Lib.hid a
  have HRT := Lib.hid rt
  have HA := Lib.hid HA
  have HC := Lib.hid HC
  have HLEN := Lib.hid hlen
  obtain ⟨n, hn⟩ : ∃ n, H.blks.length = n := ⟨_, rfl⟩
  rw [hn] at hn512
  have HN := Lib.hid hn
  have HCAP := Lib.hid hcap
  clear HW a rt hlen hn hcap hd
  go_enter Try.func17, Try.ntmps17
  go_wp2_with fail
  refine HWk.out.mono ?_
  rintro e w2 ⟨A7, c7, rfl, hown7, hb2⟩
  clear HWk
  dsimp only [Option.getD, Option.isSome, errV] at hown7 ⊢
  have a2 := HAl.out.below hb2
  obtain ⟨wd, hwd⟩ : ∃ wd, w2.drew = wd := ⟨_, rfl⟩
  have hbd : Below w2.heap.size w2 wd := by rw [← hwd]; exact (Below.refl _ _).drew
  have ad := a2.below hbd
  have hbD := hb2.trans (hbd.mono hb2.size)
  obtain ⟨Vb, Vd, gl, cs, hm⟩ := ad.hm
  obtain ⟨A1, c1, rfl⟩ := own_sl hm.ob
  have own7 := own_below' hown7 hbd
  have hsm := blocks_same wd A7 A1 c7 c1 H.blks (BkRd.of_own own7) (BkRd.of_own hm.ob) (by rw [HN.out]; omega)
  have k1 := hm.c1
  have k0 := hm.c0
  have hpd := hm.lt
  rw [HCAP.out] at k0
  rw [HN.out] at hsm k1 ⊢
  have HSM := Lib.hid hsm
  have HWD := Lib.hid hwd
  have HD := Lib.hid ad
  have HBD := Lib.hid hbD
  clear hown7 hb2 a2 hwd hbd ad hbD hm own7 hsm
  go_wp2_with fail
  refine wp_region_tail wd.heap.size [([0, 1, 2, 3, 4, 5, 6, 7], 8), ([9, 10, 11, 12, 14, 15, 16, 17], 13), ([18, 19, 20, 21], 22)] [23, 24] [] (by kernel_rfl) (by kernel_rfl) (by kernel_rfl) (fun _ _ _ _ _ h => h) ?_
  rw [HWD.out]
  have t1 : ∀ z : LaterB wd.heap.size wd, z.val.cell? ⟨p, 1, none⟩ = some (.slice A1 n c1) := fun z => (z.ext.cell (p := ⟨p, 1, none⟩) hpd).trans k1
  refine tail_cons (l := ?segA) ?hsegA ?_
  case hsegA => simp only [pick, List.getElem?_toArray, List.getElem?_cons_succ, List.getElem?_cons_zero]; rfl
  repeat (go_big_quiet_step (fail))
  refine wpQuiet_nil ?_
  clear t1 k1
  refine tail_call (vs := #[.slice A7 n c7, .slice A1 n c1]) Try.call37 rfl rfl rfl (R := fun r w' => r = .int .i64 1) (HSM.out.mono ?_) wd.heap.size (Nat.le_refl _) ?_
  · rintro e w' ⟨rfl, hb⟩
    exact ⟨_, rfl, hb, rfl⟩
  rintro r w3 hb3 rfl
  have HB3 := Lib.hid hb3
  have A3 := Lib.hid (HD.out.below hb3)
  have hs3 := hb3.size
  clear HSM hb3
  simp only [Act.put, List.setIfInBounds_toArray, List.set_cons_zero, List.set_cons_succ]
  have t0 : ∀ z : LaterB wd.heap.size w3, z.val.cell? ⟨p, 0, none⟩ = some (.int .i64 (cap : Int)) := fun z => ((HB3.out.trans z.ext).cell (p := ⟨p, 0, none⟩) hpd).trans k0
  refine tail_cons (l := ?segB) ?hsegB ?_
  case hsegB => simp only [pick, List.getElem?_toArray, List.getElem?_cons_succ, List.getElem?_cons_zero]; rfl
  repeat (go_big_quiet_step (fail))
  refine wpQuiet_nil ?_
  clear t0 k0
  refine tail_call (vs := #[.pointer (some ⟨g, 0, none⟩)]) Try.call38 rfl rfl rfl (R := fun r w' => r = .int .i64 (cap : Int) ∧ w' = w3) ((cap_any A3.out.st.ar).mono ?_) wd.heap.size (Nat.le_refl _) ?_
  · rintro e w' ⟨rfl, rfl⟩
    exact ⟨_, rfl, Below.refl _ _, rfl, rfl⟩
  rintro r w4 _ ⟨rfl, rfl⟩
  simp only [Act.put, List.setIfInBounds_toArray, List.set_cons_zero, List.set_cons_succ]
  refine tail_cons (l := ?segC) ?hsegC ?_
  case hsegC => simp only [pick, List.getElem?_toArray, List.getElem?_cons_succ, List.getElem?_cons_zero]; rfl
  repeat (go_big_quiet_step (fail))
  refine wpQuiet_nil ?_
  refine tail_call (vs := #[.pointer (some ⟨g, 0, none⟩)]) Try.call39 rfl rfl rfl (R := fun r w' => r = .nilIface ∧ Below w4.heap.size w4 w') ((HC.out w4 g base cap c A bs true A3.out.st.ar hbase HLEN.out HRT.out.chk).mono ?_) wd.heap.size (Nat.le_refl _) ?_
  · rintro e w' ⟨rfl, hb⟩
    exact ⟨_, rfl, hb.mono hs3, rfl, hb⟩
  rintro r w5 _ ⟨rfl, hb5⟩
  have A5 := Lib.hid (A3.out.below hb5)
  have B5 := Lib.hid (HBD.out.trans ((HB3.out.trans (hb5.mono hs3)).mono HBD.out.size))
  clear hb5 HB3 A3 HD HC HBD HWD hpd hs3 HAl
  simp only [Act.put, List.setIfInBounds_toArray, List.set_cons_zero, List.set_cons_succ]
  refine tail_last (l := ?laD) (t := []) ?hlaD ?htlD ?_
  case hlaD => simp only [pick, List.getElem?_toArray, List.getElem?_cons_succ, List.getElem?_cons_zero]; rfl
  case htlD => rfl
  repeat (go_big_quiet_step (fail))
  refine wpQuiet_nil ?_
  go_wp2
  go_loopw [7] (fun i wr => ∃ d : Nat, i = .int .i64 (d : Int) ∧ d ≤ 22 ∧ Al wB wr g base cap A c bs F p H ∧ Below W.heap.size W wr) (fun i _ => 22 - (intOf i).toNat)
  case atStart => exact ⟨0, rfl, by omega, A5.out, B5.out⟩
  case round =>
    obtain ⟨d, rfl, hd, ha, hb⟩ := hrel
    clear A5 B5
    have AR := Lib.hid ha
    have BR := Lib.hid hb
    clear ha hb
    by_cases hd22 : d < 22
    · have hdi : (d : Int) < 22 := by omega
      have HAL := Lib.hid (HA.out wr g base cap c A bs d _ AR.out.st.ar hbase HLEN.out hd22 (HRT.out.all_ d hd22))
      have hfw := HLF.out d hd22
      go_wp2_with fail
      refine HAL.out.mono ?_
      rintro e w6 ⟨A9, c9, rfl, hown, hb⟩
      dsimp only [Option.getD, Option.isSome, errV] at hown ⊢
      have a6 := AR.out.below hb
      obtain ⟨Vb, Vd, gl, cs, hm⟩ := a6.hm
      obtain ⟨A2, c2, hcell, hlo⟩ := hm.lcell hd22
      have q3 := hm.c3
      have hsm := ints_same w6 A9 A2 c9 c2 (nats (H.lists d)) (own_ints hown rfl) (own_ints hlo rfl) (by rw [nats_len]; omega)
      rw [nats_len] at hsm
      obtain ⟨M, hM⟩ : ∃ M, (H.lists d).length = M := ⟨_, rfl⟩
      rw [hM] at hsm hcell ⊢
      have HSM := Lib.hid hsm
      have A6 := Lib.hid a6
      have B6 := Lib.hid (BR.out.trans (hb.mono BR.out.size))
      clear hown hb a6 hm hlo hsm hM HAL AR BR hfw
      go_wp2_with fail
      refine HSM.out.mono ?_
      rintro e w7 ⟨rfl, hb⟩
      have A7 := Lib.hid (A6.out.below hb)
      have B7 := Lib.hid (B6.out.trans (hb.mono B6.out.size))
      clear hb HSM A6 B6 q3 hcell
      go_wp2
      go_roundw
      case rel => exact ⟨d + 1, by go_num, by omega, A7.out, B7.out⟩
      case measure => simp only [intOf]; omega
    · go_wp2
      go_ret
      exact ⟨rfl, BR.out⟩
end
end Go.Proofs.Ytbemaoncakcnjaa

/- The contracts of the document's heap: handle, Rebuild. -/
namespace Go.Proofs.Ytbemaoncakcnjaa
open Go.RowKit

section
variable {F : Nat → Prop} {w w' : World} {p gl : Nat} {H : Hp} {Vb Vd : Value} {cs : List Value}
/-- Other lists, all empty. -/
theorem Hm.gset (h : Hm F w p H Vb Vd gl cs) (g2 : Nat) (hrow : w.heap[g2]? = some (.cells (List.replicate 22 (Value.slice none 0 0)).toArray 84 (0, 0))) :
    Hm (fun k => F k ∨ k = g2) (w.setCell ⟨p, 3, none⟩ (.slice (some ⟨g2, 0, none⟩) 22 22)) p { H with lists := fun _ => [] } Vb Vd g2 (List.replicate 22 (.slice none 0 0)) := by
  have hk := set_p w p 3 (.slice (some ⟨g2, 0, none⟩) 22 22)
  have hg : g2 ≠ p := fun e => by
    have h1 := h.obj
    rw [← e, hrow] at h1
    injection h1 with h1
    injection h1 with _ h1 _
    exact absurd h1 (by decide)
  refine ⟨?_, own_keep h.ob (fun k e => hk k (own_two h.ob h.obj (by decide) k e)), own_keep h.od (fun k e => hk k (own_two h.od h.obj (by decide) k e)), (hk g2 hg).trans hrow, List.length_replicate, fun d hd => ⟨.slice none 0 0, by rw [List.getElem?_replicate, if_pos hd], World.ownsRow_nil _ _ _ _⟩, .inl h.fp, .inr rfl, fun k e => .inl (h.fb k e), fun k e => .inl (h.fd k e), fun d v k hd hv e => ?_, h.sl⟩
  · have := heap_setCell_same w p 3 _ _ (.slice (some ⟨g2, 0, none⟩) 22 22) h.obj
    rw [this]
    rfl
  · rw [List.getElem?_replicate, if_pos hd] at hv
    injection hv with hv
    subst hv
    cases e
set_option maxHeartbeats 2000000 in
theorem hreb_any (h : Hm F w p H Vb Vd gl cs) (hok : H.Ok) :
    Calls Try.prog 31 #[.pointer (some ⟨p, 0, none⟩)] w fun e w' => e = .returned (.tuple #[]) ∧ HT F w p H.rebuild w' := by
  obtain ⟨c22, h22⟩ : ∃ c22 : List Value, List.replicate 22 (Value.slice none 0 0) = c22 := ⟨_, rfl⟩
  have HMS : ∀ W : World, (Instr.makeSlice 70 (.int .i64 22) (.int .i64 22)).run Try.prog W = .ok (.slice (some ⟨W.heap.size, 0, none⟩) 22 22) (W.alloc (.cells c22.toArray 84)) := fun W => by rw [← h22]; exact mk_sls W
  obtain ⟨wg, hwg⟩ : ∃ wg, w.alloc (.cells c22.toArray 84) = wg := ⟨_, rfl⟩
  have b1 : Below w.heap.size w wg := by rw [← hwg]; exact (Below.refl _ _).alloc (Nat.le_refl _) _
  have n1 : wg.heap[w.heap.size]? = some (.cells c22.toArray 84 (0, 0)) := by rw [← hwg]; exact heap_alloc_new w _
  have hg := h.below b1
  have q3 := hg.c3
  have f3 := hg.thaw 3
  have hs := hg.gset w.heap.size (by rw [h22]; exact n1)
  obtain ⟨w1, hw1⟩ : ∃ w1, wg.setCell ⟨p, 3, none⟩ (.slice (some ⟨w.heap.size, 0, none⟩) 22 22) = w1 := ⟨_, rfl⟩
  rw [hw1, h22] at hs
  have hz : Hz F w p (fun k => F k ∨ k = w.heap.size) w1 (rebH H 0) Vb Vd w.heap.size c22 := by
    refine ⟨hs, (Tch.of_below (S := F) b1).trans (by rw [← hw1]; exact Tch.set wg ⟨p, 3, none⟩ _ h.fp) (fun _ _ h => h), fun k hk => ?_⟩
    rcases hk with hk | hk
    · exact .inl hk
    · exact .inr (by omega)
  have hn512 := hok.n
  have HZ0 := Lib.hid hz
  have HWG := Lib.hid hwg
  have HW1 := Lib.hid hw1
  have HOK := Lib.hid hok
  obtain ⟨n, hn⟩ : ∃ n, H.blks.length = n := ⟨_, rfl⟩
  rw [hn] at hn512
  have HN := Lib.hid hn
  have HRB : Hid (H.rebuild = rebH H n) := (show _ = _ by unfold Hp.rebuild; rw [hn])
  clear h hok h22 hwg b1 n1 hg hs hw1 hz hn
  go_enter Try.func31, Try.ntmps31
  go_wp2_with (first | (rw [HWG.out]) | (rw [HW1.out]) | fail)
  clear q3 f3 HMS HWG HW1
  go_loopw [2] (fun i wr => ∃ (j : Nat) (F' : Nat → Prop) (Vb Vd : Value) (gl : Nat) (cs : List Value), i = .int .i64 (j : Int) ∧ j ≤ n ∧ Hz F w p F' wr (rebH H j) Vb Vd gl cs) (fun i _ => n - (intOf i).toNat)
  case atStart => exact ⟨0, _, _, _, _, _, rfl, Nat.zero_le _, HZ0.out⟩
  case round =>
    obtain ⟨j, F', Vb, Vd, gl, cs, rfl, hj, hz⟩ := hrel
    clear HZ0
    obtain ⟨e1, e2, _⟩ := rebH_same H j
    have hfw := rebH_few H j
    have k1 := hz.hm.c1
    obtain ⟨A, c, hV⟩ := own_sl hz.hm.ob
    rw [hV] at k1 hz
    have hlen : (rebH H j).blks.length = n := by rw [e1]; exact HN.out
    rw [hlen] at k1 hz
    by_cases hlt : j < n
    · obtain ⟨b1, c1, hb, _, hnc, _⟩ := own_nn hz.hm.ob (by omega)
      injection hb with e3 _ e5
      subst e3 e5
      have d2 := (hz.hm.at_n hlen hlt).2.2
      rw [e1] at d2
      have hji : (j : Int) < (n : Int) := by omega
      have HZ := Lib.hid hz
      have HE1 := Lib.hid e1
      have HFW := Lib.hid hfw
      have HLEN := Lib.hid hlen
      cases hu : (bkAt H.blks j).used with
      | true =>
        rw [hu] at d2
        have HR : Hid (rebH H (j + 1) = rebH H j) := (show _ = _ by
          show (if (bkAt H.blks j).used = true then rebH H j else (rebH H j).in_ j) = _
          rw [if_pos hu])
        clear hz e1 e2 hfw hlen hV hu
        go_wp2
        go_roundw
        case rel => exact ⟨j + 1, _, _, _, _, _, by go_num, by omega, by rw [HR.out]; exact HZ.out⟩
        case measure => simp only [intOf]; omega
      | false =>
        rw [hu] at d2
        have HR : Hid (rebH H (j + 1) = (rebH H j).in_ j) := (show _ = _ by
          show (if (bkAt H.blks j).used = true then rebH H j else (rebH H j).in_ j) = _
          rw [if_neg (by rw [hu]; decide)])
        clear hz e1 e2 hfw hlen hV hu
        go_wp2_with fail
        refine (hin_any HZ.out.hm j (by rw [HLEN.out]; exact hlt) (by rw [HE1.out]; exact HOK.out.sz (by rw [HN.out]; exact hlt)) (fun d hd => Nat.le_trans (HFW.out d hd) (by omega))).mono ?_
        rintro e w2 ⟨rfl, ht⟩
        obtain ⟨F2, Vb2, Vd2, gl2, cs2, z2⟩ := HZ.out.step ht
        have Z2 := Lib.hid z2
        clear z2 ht HZ k1 d2
        go_wp2
        go_roundw
        case rel => exact ⟨j + 1, _, _, _, _, _, by go_num, by omega, by rw [HR.out]; exact Z2.out⟩
        case measure => simp only [intOf]; omega
    · obtain rfl : n = j := by omega
      have HTO := Lib.hid hz.fin
      clear hz
      go_wp2
      go_end0
      exact ⟨rfl, by rw [HRB.out]; exact HTO.out⟩
end
end Go.Proofs.Ytbemaoncakcnjaa
