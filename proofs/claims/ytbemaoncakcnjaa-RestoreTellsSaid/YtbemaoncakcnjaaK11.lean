/- Texts of mine, joined: Of0, ResM, Res1, Res2. -/
import Derived.Test.YtbemaoncakcnjaaK10

/- The program's image in the making; what used blocks hold (genof.py). -/
namespace Go.Proofs.Ytbemaoncakcnjaa
open Go.RowKit

section
variable {B g n : Nat} {N : Int} {A1 A2 : Option Addr} {c1 c2 : Nat} {l : List Rk} {d : List (List UInt8)} {xs : List Value} {w w3 w4 w' : World}
end
section
variable {B g : Nat} {N : Int} {A1 A2 : Option Addr} {c1 c2 : Nat} {l : List Rk} {d : List (List UInt8)} {xs : List Value} {w : World}
end
/-- Blocks as they are drawn. -/
def toR (x : Bk) : Rk := ⟨(x.off : Int), (x.size : Int), x.used⟩
/-- What used blocks hold. -/
def ofD (bs : List UInt8) : List Bk → List (List UInt8)
  | [] => []
  | x :: r => if x.used then (bs.drop (x.off + 8)).take (x.size - 16) :: ofD bs r else ofD bs r
end Go.Proofs.Ytbemaoncakcnjaa

/- An image laid into bytes, plain: its blocks are walked, its data stand where they are to. -/
namespace Go.Proofs.Ytbemaoncakcnjaa
open Go.RowKit

/-- Blocks as numbers. -/
def toB (x : Rk) : Bk := ⟨x.o.toNat, x.s.toNat, x.u⟩
/-- Blocks laid one behind the other, the used ones' data in them. -/
def layI : List UInt8 → List Bk → List (List UInt8) → List UInt8
  | bs, [], _ => bs
  | bs, x :: r, d => if x.used then layI (lay (setT bs x) (x.off + 8) (d.headD [])) r d.tail else layI (setT bs x) r d
/-- As many data as used blocks, as long as they hold. -/
def datB : List Bk → List (List UInt8) → Prop
  | [], d => d = []
  | x :: r, d => if x.used then (match d with | [] => False | y :: d' => y.length + 16 = x.size ∧ datB r d') else datB r d
theorem row_tile {n : Int} : ∀ {l : List Rk} {o : Nat} {f : Bool}, rowOk n (o : Int) f l = true → tile o (l.map toB) n.toNat ∧ l = (l.map toB).map toR ∧ (∀ x ∈ l, 0 ≤ x.o ∧ 32 ≤ x.s ∧ x.o + x.s ≤ n)
  | [], o, f, h => by
    unfold rowOk at h
    have : (o : Int) = n := by simpa using h
    refine ⟨?_, rfl, fun x hx => by cases hx⟩
    show o = n.toNat
    omega
  | x :: r, o, f, h => by
    unfold rowOk at h
    simp only [Bool.and_eq_true, beq_iff_eq] at h
    obtain ⟨ho, hs, hle, _, hr⟩ := h
    have hle := of_decide_eq_true hle
    have h3 := (isSz_iff _).1 hs
    have hr2 : rowOk n ((o + x.s.toNat : Nat) : Int) (!x.u) r = true := by
      rw [show ((o + x.s.toNat : Nat) : Int) = (o : Int) + x.s from by omega]; exact hr
    obtain ⟨t1, t2, t3⟩ := row_tile hr2
    refine ⟨⟨?_, ?_, ?_⟩, ?_, ?_⟩
    · show x.o.toNat = o
      omega
    · show isSz ((x.s.toNat : Nat) : Int) = true
      rw [show ((x.s.toNat : Nat) : Int) = x.s from by omega]; exact hs
    · exact t1
    · rw [List.map_cons, List.map_cons, ← t2]
      congr 1
      unfold toR toB
      obtain ⟨xo, xs, xu⟩ := x
      dsimp only at ho h3 ⊢
      rw [show ((xo.toNat : Nat) : Int) = xo from by omega, show ((xs.toNat : Nat) : Int) = xs from by omega]
    · intro y hy
      rcases List.mem_cons.1 hy with rfl | hy
      · omega
      · exact t3 y hy
theorem dat_datB : ∀ {l : List Rk} {d : List (List UInt8)}, (∀ x ∈ l, 0 ≤ x.o ∧ 32 ≤ x.s) → datOk l d = true → datB (l.map toB) d
  | [], d, _, h => by
    unfold datOk at h
    rw [List.isEmpty_iff] at h
    exact h
  | x :: l, d, hz, h => by
    have hx := hz x (by simp)
    have hz2 : ∀ y ∈ l, 0 ≤ y.o ∧ 32 ≤ y.s := fun y hy => hz y (by simp [hy])
    unfold datOk at h
    rw [List.map_cons]
    unfold datB
    show if x.u then _ else _
    cases hu : x.u with
    | false =>
      rw [hu] at h
      simp only [Bool.false_eq_true, if_false] at h ⊢
      exact dat_datB hz2 h
    | true =>
      rw [hu] at h
      simp only [if_true] at h ⊢
      cases d with
      | nil => cases h
      | cons y d' =>
        simp only [Bool.and_eq_true, beq_iff_eq] at h
        refine ⟨?_, dat_datB hz2 h.2⟩
        show y.length + 16 = x.s.toNat
        omega
theorem setT_len {bs : List UInt8} {x : Bk} (h : x.off + x.size ≤ bs.length) (hs : 32 ≤ x.size) : (setT bs x).length = bs.length := by
  unfold setT
  rw [lyN_length _ _ _ (by rw [lyN_length _ _ _ (by omega)]; omega), lyN_length _ _ _ (by omega)]
theorem setT_out {bs : List UInt8} {x : Bk} (h : x.off + x.size ≤ bs.length) (hs : 32 ≤ x.size) {q : Nat} (hq : q < x.off ∨ x.off + x.size ≤ q) : (setT bs x)[q]? = bs[q]? := by
  unfold setT
  rw [lyN_get _ _ _ _ (by rw [lyN_length _ _ _ (by omega)]; omega) (by omega), lyN_get _ _ _ _ (by omega) (by omega)]
theorem layI_spec : ∀ (l : List Bk) (bs : List UInt8) (o : Nat) (d : List (List UInt8)), 184 ≤ o → o % 16 = 8 → tile o l bs.length → datB l d →
    (layI bs l d).length = bs.length ∧ (∀ q, q < o → (layI bs l d)[q]? = bs[q]?) ∧ (∀ x ∈ l, getB (layI bs l d) (x.off : Int) = some x) ∧ ofD (layI bs l d) l = d
  | [], bs, o, d, _, _, _, hd => ⟨rfl, fun _ _ => rfl, fun x hx => (by cases hx), hd.symm⟩
  | x :: r, bs, o, d, ho, ho2, ⟨h1, h2, h3⟩, hd => by
    have q := (isSz_iff _).1 h2
    have hle := (tile_mem r _ _ h3).1
    have hxo : x.off = o := h1
    have hs1 := setAll_spec [x] bs o (o + x.size) ho ho2 ⟨h1, h2, rfl⟩ (by omega)
    have hgx : getB (setT bs x) (x.off : Int) = some x := hs1.2.1 x (by simp)
    have hl1 := setT_len (bs := bs) (x := x) (by omega) (by omega)
    unfold datB at hd
    unfold layI ofD
    cases hu : x.used with
    | false =>
      rw [hu] at hd
      simp only [Bool.false_eq_true, if_false] at hd ⊢
      obtain ⟨r1, r2, r3, r4⟩ := layI_spec r (setT bs x) (o + x.size) d (by omega) (by omega) (by rw [hl1]; exact h3) hd
      refine ⟨by rw [r1, hl1], fun p hp => by rw [r2 p (by omega), setT_out (by omega) (by omega) (.inl (by omega))], fun y hy => ?_, r4⟩
      rcases List.mem_cons.1 hy with rfl | hy
      · refine getB_congr (setT bs y) _ y r1 hgx (wordN_congr _ _ _ fun i _ hi => r2 i (by omega)) (wordN_congr _ _ _ fun i _ hi => r2 i (by omega))
      · exact r3 y hy
    | true =>
      rw [hu] at hd
      simp only [if_true] at hd ⊢
      cases d with
      | nil => exact hd.elim
      | cons y d' =>
        obtain ⟨hyl, hd'⟩ := hd
        simp only [List.headD_cons, List.tail_cons]
        have hag := agree_lay (bs := setT bs x) (x := x) (x.off + 8) y (Nat.le_refl _) (by omega) (by rw [hl1]; omega)
        have hl2 : (lay (setT bs x) (x.off + 8) y).length = bs.length := by rw [hag.1, hl1]
        obtain ⟨r1, r2, r3, r4⟩ := layI_spec r (lay (setT bs x) (x.off + 8) y) (o + x.size) d' (by omega) (by omega) (by rw [hl2]; exact h3) hd'
        have hgx2 : getB (lay (setT bs x) (x.off + 8) y) (x.off : Int) = some x := getB_congr (setT bs x) _ x hag.1 hgx (wordN_congr _ _ _ fun i _ hi => hag.2 i (.inl (by omega))) (wordN_congr _ _ _ fun i h1 _ => hag.2 i (.inr (by omega)))
        refine ⟨by rw [r1, hl2], fun p hp => by rw [r2 p (by omega), hag.2 p (.inl (by omega)), setT_out (by omega) (by omega) (.inl (by omega))], fun z hz => ?_, ?_⟩
        · rcases List.mem_cons.1 hz with rfl | hz
          · exact getB_congr _ _ z r1 hgx2 (wordN_congr _ _ _ fun i _ hi => r2 i (by omega)) (wordN_congr _ _ _ fun i _ hi => r2 i (by omega))
          · exact r3 z hz
        · rw [r4]
          congr 1
          apply List.ext_getElem?
          intro i
          rw [List.getElem?_take, List.getElem?_drop]
          by_cases hi : i < x.size - 16
          · rw [if_pos hi, r2 _ (by omega), lay_in _ _ _ (by rw [hl1]; omega) i (by omega)]
          · rw [if_neg hi, List.getElem?_eq_none (by omega)]
theorem row_adj {n : Int} : ∀ {l : List Rk} {o : Int} {f : Bool}, rowOk n o f l = true → (∀ j x y, l[j]? = some x → l[j + 1]? = some y → x.u = true ∨ y.u = true) ∧ (f = true → ∀ x, l[0]? = some x → x.u = true)
  | [], o, f, h => ⟨fun j x y hx => by simp at hx, fun _ x hx => by simp at hx⟩
  | z :: r, o, f, h => by
    unfold rowOk at h
    simp only [Bool.and_eq_true] at h
    obtain ⟨_, _, _, hf, hr⟩ := h
    obtain ⟨i1, i2⟩ := row_adj hr
    refine ⟨fun j x y hx hy => ?_, fun hft x hx => ?_⟩
    · cases j with
      | zero =>
        simp at hx
        subst hx
        cases hu : z.u with
        | true => exact .inl rfl
        | false => exact .inr (i2 (by rw [hu]; rfl) y (by simpa using hy))
      | succ j => exact i1 j x y (by simpa using hx) (by simpa using hy)
    · simp at hx
      subst hx
      rw [hft] at hf
      cases hu : z.u with
      | true => rfl
      | false => rw [hu] at hf; cases hf
theorem row_noAdj {n : Int} {l : List Rk} {o : Int} {f : Bool} (h : rowOk n o f l = true) : noAdj (l.map toB) = true := by
  obtain ⟨h1, _⟩ := row_adj h
  unfold noAdj
  rw [List.all_eq_true]
  intro i hi
  have hi := List.mem_range.1 hi
  rw [List.length_map] at hi
  unfold pairOk usedAt
  cases i with
  | zero => rfl
  | succ i =>
    have e1 : (l.map toB)[i + 1]? = some (toB l[i + 1]) := by rw [List.getElem?_map, List.getElem?_eq_getElem hi]; rfl
    have e2 : (l.map toB)[i]? = some (toB (l[i]'(by omega))) := by rw [List.getElem?_map, List.getElem?_eq_getElem (show i < l.length by omega)]; rfl
    have e3 : i + 1 - 1 = i := by omega
    rw [e3]
    rcases h1 i _ _ (List.getElem?_eq_getElem (show i < l.length by omega)) (List.getElem?_eq_getElem hi) with hu | hu
    · simp [e1, e2, toB, hu]
    · simp [e1, e2, toB, hu]
theorem ofD_congr {bs bs' : List UInt8} : ∀ {l : List Bk}, (∀ x ∈ l, x.used = true → ∀ i, x.off + 8 ≤ i → i < x.off + 8 + (x.size - 16) → bs'[i]? = bs[i]?) → ofD bs' l = ofD bs l
  | [], _ => rfl
  | x :: l, h => by
    have ih := ofD_congr (l := l) fun y hy => h y (by simp [hy])
    unfold ofD
    rw [ih]
    cases hu : x.used with
    | false => rfl
    | true =>
      simp only [if_true]
      congr 1
      apply List.ext_getElem?
      intro i
      rw [List.getElem?_take, List.getElem?_take, List.getElem?_drop, List.getElem?_drop]
      by_cases hi : i < x.size - 16
      · rw [if_pos hi, if_pos hi, h x (by simp) hu _ (by omega) (by omega)]
      · rw [if_neg hi, if_neg hi]
/-- Lists made anew: only the head, and two words of each free block, are others. -/
theorem rebuild_kept {bs out : List UInt8} {l : List Bk} (h : walkB bs = some l) (hm : bs.length ≤ 16384) (ho : rebuildB bs = some out) : ∀ i, 184 ≤ i → (∀ y ∈ l, y.used = false → i < y.off + 8 ∨ y.off + 24 ≤ i) → out[i]? = bs[i]? := by
  obtain ⟨h184, ht, hg⟩ := walkB_tiles h
  have hmem := (tile_mem l _ _ ht).2
  have el : (List.replicate 184 (0 : UInt8) ++ bs.drop 184).length = bs.length := by rw [List.length_append, List.length_replicate, List.length_drop]; omega
  have hst : Stands (List.replicate 184 (0 : UInt8) ++ bs.drop 184) l := by
    refine ⟨fun x hx => ?_, tile_apart l _ _ ht⟩
    obtain ⟨a, b, c, _⟩ := hmem x hx
    have q := (isSz_iff _).1 c
    refine getB_congr bs _ x el (hg x hx) ?_ ?_
    · exact wordN_congr _ _ _ fun i h1 _ => head_get bs 184 i (by omega)
    · exact wordN_congr _ _ _ fun i h1 _ => head_get bs 184 i (by omega)
  have hL := lists_none (by rw [el]; exact h184) (by rw [el]; exact hm) hst (fun p hp _ => wordN_zeros _ _ _ hp)
  have e0 : (fun _ => []) = freeL [] := by funext c; rfl
  rw [e0] at hL
  obtain ⟨_, _, hk⟩ := reb_lists l [] _ (fun x hx => hx) (by simpa using tile_ne l _ _ ht) hL
  unfold rebuildB at ho
  rw [h] at ho
  injection ho with ho
  dsimp only at ho
  rw [ho] at hk
  intro i h1 h2
  rw [hk i h1 h2]
  exact head_get bs 184 i h1
/-- An image that may be, laid: a heap that is right, whose blocks and data are the image's. -/
theorem image_laid {N : Nat} {l : List Rk} {d : List (List UInt8)} (h : mayI (N : Int) l d = true) :
    ∃ out, walkB (layI (List.replicate N 0) (l.map toB) d) = some (l.map toB) ∧ (layI (List.replicate N 0) (l.map toB) d).length = N ∧ rebuildB (layI (List.replicate N 0) (l.map toB) d) = some out ∧ checkB out = true ∧ walkB out = some (l.map toB) ∧ out.length = N ∧ ofD out (l.map toB) = d := by
  unfold mayI at h
  simp only [Bool.and_eq_true] at h
  obtain ⟨hlo, hr, hdo⟩ := h
  have hN := (lenOk_iff _).1 hlo
  obtain ⟨ht, _, hz⟩ := row_tile (o := 184) hr
  rw [Int.toNat_natCast] at ht
  have hd := dat_datB (fun x hx => ⟨(hz x hx).1, (hz x hx).2.1⟩) hdo
  have hl0 : (List.replicate N (0 : UInt8)).length = N := List.length_replicate
  obtain ⟨r1, _, r3, r4⟩ := layI_spec (l.map toB) (List.replicate N 0) 184 d (Nat.le_refl _) (by omega) (by rw [hl0]; exact ht) hd
  rw [hl0] at r1
  obtain ⟨mid, hmid⟩ : ∃ mid, layI (List.replicate N 0) (l.map toB) d = mid := ⟨_, rfl⟩
  rw [hmid] at r1 r3 r4 ⊢
  have hw : walkB mid = some (l.map toB) := walkB_tile (by rw [r1]; exact ht) r3
  obtain ⟨out, e, _, h2, h3, _, h5⟩ := checkB_built hw (by omega)
  refine ⟨out, hw, r1, e, by rw [h5]; exact row_noAdj hr, h3, h2.trans r1, ?_⟩
  rw [← r4]
  refine ofD_congr fun x hx hu i i1 i2 => rebuild_kept hw (by omega) e i ?_ fun y hy hyu => ?_
  · have := ((tile_mem _ _ _ ht).2 x hx).1
    omega
  · have hxs := (isSz_iff _).1 ((tile_mem _ _ _ ht).2 x hx).2.2.1
    have hys := (isSz_iff _).1 ((tile_mem _ _ _ ht).2 y hy).2.2.1
    rcases tile_apart _ _ _ ht x hx y hy with e | e | e
    · rw [e, hyu] at hu; cases hu
    · omega
    · omega
end Go.Proofs.Ytbemaoncakcnjaa

/- The program's restore: lay. -/
namespace Go.Proofs.Ytbemaoncakcnjaa
open Go.RowKit

/-- An arena of the call's own above a bound, and an object that is none of its blocks. -/
structure Sm (wB W : World) (g base cap : Nat) (A : Option Addr) (c : Nat) (bs : List UInt8) (gm : Nat) (o : Obj) : Prop where
  st : St wB W g base cap A c bs []
  ob : W.heap[gm]? = some o
  nf : ¬ foot g A gm
section
variable {wB W W' : World} {g base cap c gm : Nat} {A : Option Addr} {bs out : List UInt8} {o : Obj}
theorem obj_lt {w : World} {g : Nat} {o : Obj} (h : w.heap[g]? = some o) : g < w.heap.size := (Array.getElem?_eq_some_iff.1 h).1
theorem Sm.below (h : Sm wB W g base cap A c bs gm o) (hb : Below W.heap.size W W') : Sm wB W' g base cap A c bs gm o :=
  ⟨h.st.below hb, (hb.block _ (obj_lt h.ob)).trans h.ob, h.nf⟩
theorem Sm.became (h : Sm wB W g base cap A c bs gm o) (hb : Became 74 g base cap A out W W') : ∃ A' c', Sm wB W' g base cap A' c' out gm o := by
  obtain ⟨A', c', har, ht, hA⟩ := hb
  have hlow : ∀ a, A' = some a → wB.heap.size ≤ a.block := fun a ha => by
    rcases hA with e | e
    · exact h.st.aB a (e ▸ ha)
    · exact Nat.le_trans h.st.size (e a ha)
  refine ⟨A', c', ⟨h.st.bel.trans (ht.below (fun k hk => ?_) h.st.size), har, h.st.gB, hlow, fun q hq => by cases hq⟩, ?_, ?_⟩
  · rcases hk with rfl | ⟨a, e, rfl⟩
    · exact h.st.gB
    · exact h.st.aB a e
  · exact (ht.block _ (obj_lt h.ob) h.nf).trans h.ob
  · intro hf
    rcases hf with rfl | ⟨a, e, rfl⟩
    · exact h.nf (.inl rfl)
    · rcases hA with e2 | e2
      · exact h.nf (.inr ⟨a, e2 ▸ e, rfl⟩)
      · have h1 := e2 a e
        have := obj_lt h.ob
        omega
end
theorem layI_used {bs : List UInt8} {x : Bk} {r : List Bk} {d : List (List UInt8)} {y : List UInt8} (hu : x.used = true) : layI bs (x :: r) (y :: d) = layI (lay (setT bs x) (x.off + 8) y) r d := by
  rw [layI, if_pos hu]; rfl
theorem layI_free {bs : List UInt8} {x : Bk} {r : List Bk} {d : List (List UInt8)} (hu : x.used = false) : layI bs (x :: r) d = layI (setT bs x) r d := by
  rw [layI, if_neg (by rw [hu]; simp)]
set_option maxRecDepth 100000 in
set_option maxHeartbeats 2000000 in
theorem rlay_prog (wB W : World) (g base cap c : Nat) (A : Option Addr) (bs : List UInt8) (n : Nat) (L : List Bk) (d : List (List UInt8)) (A1 A2 : Option Addr) (k1 k2 : Nat) (N : Int) (hst : St wB W g base cap A c bs []) (hb62 : base ≤ 4611686018427387904) (hn : bs.length = n) (hn16 : n ≤ 16384) (ht : tile 184 L n) (hd : datB L d) (hr : RkRd wB wB.heap.size A1 (L.map toR)) (hdr : DtRd wB wB.heap.size A2 d) :
    Calls Try.prog 25 #[.pointer (some ⟨g, 0, none⟩), .agg #[.int .i64 N, .slice A1 L.length k1, .slice A2 d.length k2]] W fun e w' => e = .returned (.tuple #[]) ∧ ∃ A' c', St wB w' g base cap A' c' (layI bs L d) [] := by
  obtain ⟨m, hm⟩ : ∃ m, L.length = m := ⟨_, rfl⟩
  obtain ⟨dl, hdl⟩ : ∃ dl, d.length = dl := ⟨_, rfl⟩
  obtain ⟨F, hF⟩ : ∃ F, layI bs L d = F := ⟨_, rfl⟩
  rw [hm, hdl, hF]
  have htm := (tile_mem _ _ _ ht).2
  have hm512 : m ≤ 512 := by have := tile_few _ _ _ ht; omega
  obtain ⟨w1, hw1⟩ : ∃ w1, W.alloc (.cells #[.int .i64 N, .slice A1 m k1, .slice A2 dl k2] 28) = w1 := ⟨_, rfl⟩
  have hb1 : Below W.heap.size W w1 := by rw [← hw1]; exact (Below.refl _ _).alloc (Nat.le_refl _) _
  have n1 : w1.heap[W.heap.size]? = some (.cells #[.int .i64 N, .slice A1 m k1, .slice A2 dl k2] 28 (0, 0)) := by rw [← hw1]; exact heap_alloc_new W _
  have HS1 : Hid (Sm wB w1 g base cap A c bs W.heap.size (.cells #[.int .i64 N, .slice A1 m k1, .slice A2 dl k2] 28 (0, 0))) := ⟨hst.below hb1, n1, fun hf => by have := hst.ar.foot_lt hf; omega⟩
  have HSET := Lib.hid (fun W' A' c' bs' (x : Bk) (h : Ar W' 74 g base cap A' c' bs') (hl : bs'.length ≤ 16384) (h1 : 184 ≤ x.off) (h2 : x.off % 16 = 8) (h3 : x.off + x.size ≤ bs'.length) (h4 : isSz (x.size : Int) = true) (h5 : x.off ≤ 100000) (h6 : x.size ≤ 100000) => setC W' g base cap c' A' bs' (x.off : Int) (x.size : Int) x.used (some (setT bs' x)) h hb62 hl (by omega) (by omega) (setB_of bs' x h1 h2 h3 h4))
  have HR := Lib.hid hr
  have HDR := Lib.hid hdr
  have HM := Lib.hid hm
  have HDL := Lib.hid hdl
  have HTM := Lib.hid htm
  have HT := Lib.hid ht
  have HD := Lib.hid hd
  have HF0 := Lib.hid hF
  have HN := Lib.hid hn
  have HW1 := Lib.hid hw1
  obtain ⟨c0, c1, c2⟩ := rk_cells n1
  have hl1 := heap_lt1 n1
  clear hm hdl hF ht hd hr hdr hn htm hw1 n1 hst hb1
  go_enter Try.func25, Try.ntmps25
  go_wp2_with (first | (rw [HW1.out]) | fail)
  clear c0 c1 c2 hl1
  go_loopw [4, 10] (fun u t wr => ∃ (j v : Nat) (A : Option Addr) (c : Nat) (bs : List UInt8) (o : Nat), t = .int .i64 (j : Int) ∧ u = .int .i64 (v : Int) ∧ j ≤ m ∧ v ≤ j ∧ Sm wB wr g base cap A c bs W.heap.size (.cells #[.int .i64 N, .slice A1 m k1, .slice A2 dl k2] 28 (0, 0)) ∧ bs.length = n ∧ layI bs (L.drop j) (d.drop v) = F ∧ datB (L.drop j) (d.drop v)) (fun _ t _ => m - (intOf t).toNat)
  case atStart => exact ⟨0, 0, A, c, bs, 184, rfl, rfl, Nat.zero_le _, Nat.zero_le _, HS1.out, HN.out, HF0.out, HD.out⟩
  case round =>
    obtain ⟨j, v, A, c, bs, o, rfl, rfl, hj, hvj, hsm, hbl, hlay, hdat⟩ := hrel
    by_cases hlt : j < m
    · obtain ⟨x, hx⟩ : ∃ x, L[j]? = some x := ⟨L[j]'(by rw [HM.out]; exact hlt), List.getElem?_eq_getElem _⟩
      obtain ⟨m1, m2, m3, m4⟩ := HTM.out x (List.mem_of_getElem? hx)
      have m5 := (isSz_iff _).1 m3
      obtain ⟨b2, o2, rfl, hbb, hcl⟩ := HR.out (by rw [List.length_map, HM.out]; omega)
      obtain ⟨p0, p1, p2, _, _⟩ := hcl j (toR x) (by rw [List.getElem?_map, hx]; rfl)
      have hbe := hsm.st.bel
      have r0 := (hbe.cell (p := ⟨b2, o2 + j * 3, none⟩) hbb).trans p0
      have r1 := (hbe.cell (p := ⟨b2, o2 + j * 3 + 1, none⟩) hbb).trans p1
      have r2 := (hbe.cell (p := ⟨b2, o2 + j * 3 + 2, none⟩) hbb).trans p2
      rw [drop_at hx] at hlay hdat
      obtain ⟨w4, hw4⟩ : ∃ w4, wr.alloc (.cells #[.int .i64 (x.off : Int), .int .i64 (x.size : Int), .bool x.used] 65) = w4 := ⟨_, rfl⟩
      have hb4 : Below wr.heap.size wr w4 := by rw [← hw4]; exact (Below.refl _ _).alloc (Nat.le_refl _) _
      have n4 : w4.heap[wr.heap.size]? = some (.cells #[.int .i64 (x.off : Int), .int .i64 (x.size : Int), .bool x.used] 65 (0, 0)) := by rw [← hw4]; exact heap_alloc_new wr _
      have hsm4 := hsm.below hb4
      have hset := HSET.out w4 A c bs x hsm4.st.ar (by omega) m1 (by omega) (by omega) m3 (by omega) (by omega)
      dsimp only [Done, errV] at hset
      have hsl := setT_len (bs := bs) (x := x) (by omega) (by omega)
      have hnfx : ¬ foot g A wr.heap.size := fun hf => by have := hsm.st.ar.foot_lt hf; omega
      obtain ⟨xo, xz, xu⟩ := x
      dsimp only [toR] at p0 p1 p2 r0 r1 r2 m1 m2 m3 m4 m5 hset n4 hw4
      obtain ⟨e0, e1, e2⟩ := rk_cells n4
      have hl4 := heap_lt1 n4
      have HSETX := Lib.hid hset
      have HSM4 := Lib.hid hsm4
      have HN4 := Lib.hid n4
      have HW4 := Lib.hid hw4
      have HLAY := Lib.hid hlay
      have HDAT := Lib.hid hdat
      have HNFX := Lib.hid hnfx
      have HSL := Lib.hid (hsl.trans hbl)
      clear hx hcl p0 p1 p2 hbe hb4 hw4 n4 hsm4 hset hsm hlay hdat hnfx hsl hbl hbb
      cases xu with
      | false =>
        go_wp2_with (first | (rw [HW4.out]) | fail)
        refine HSETX.out.mono ?_
        rintro e w5 ⟨rfl, hbec⟩
        obtain ⟨A5, c5, s5⟩ := HSM4.out.became hbec
        have hx5 : w5.heap[wr.heap.size]? = _ := (by obtain ⟨_, _, _, ht5, _⟩ := hbec; exact (ht5.block _ (heap_lt1 HN4.out) HNFX.out).trans HN4.out)
        have HSM5 := Lib.hid s5
        have HF2 : Hid (layI (setT bs ⟨xo, xz, false⟩) (L.drop (j + 1)) (d.drop v) = F) := (show _ = _ by rw [← HLAY.out, layI_free rfl])
        have HD2 : Hid (datB (L.drop (j + 1)) (d.drop v)) := (show datB _ _ by have := HDAT.out; unfold datB at this; simpa using this)
        clear e0 e1 e2 hl4 hbec s5 r0 r1 r2
        obtain ⟨e0, e1, e2⟩ := rk_cells hx5
        have hl5 := heap_lt1 hx5
        clear hx5
        go_wp2_with fail
        go_roundw
        case rel => exact ⟨j + 1, v, A5, c5, _, o, by go_num, rfl, by omega, by omega, HSM5.out, HSL.out, HF2.out, HD2.out⟩
        case measure => simp only [intOf]; omega
      | true =>
        obtain ⟨y, d', hdv⟩ : ∃ y d', d.drop v = y :: d' := by
          have := HDAT.out
          unfold datB at this
          simp only [if_true] at this
          cases hdd : d.drop v with
          | nil => rw [hdd] at this; exact this.elim
          | cons y d' => exact ⟨y, d', rfl⟩
        have hyd : d[v]? = some y := by
          have : (d.drop v)[0]? = some y := by rw [hdv]; rfl
          rwa [List.getElem?_drop, Nat.add_zero] at this
        have hd' : d.drop (v + 1) = d' := by rw [← List.drop_drop, hdv]; rfl
        have hvd : v < dl := by rw [← HDL.out]; exact (List.getElem?_eq_some_iff.1 hyd).1
        have hda := HDAT.out
        rw [hdv] at hda
        unfold datB at hda
        simp only [if_true] at hda
        obtain ⟨hyl, hd2⟩ := hda
        have HF2 : Hid (layI (lay (setT bs ⟨xo, xz, true⟩) (xo + 8) y) (L.drop (j + 1)) (d.drop (v + 1)) = F) := (show _ = _ by rw [← HLAY.out, hdv, hd', layI_used rfl])
        have HD2 : Hid (datB (L.drop (j + 1)) (d.drop (v + 1))) := (show datB _ _ by rw [hd']; exact hd2)
        obtain ⟨b3, o3, rfl, hb3, hc3⟩ := HDR.out (by rw [HDL.out]; omega)
        obtain ⟨A', kz, z0, zr, zl, _, _⟩ := hc3 v y hyd
        obtain ⟨yn, hyn⟩ : ∃ yn, y.length = yn := ⟨_, rfl⟩
        rw [hyn] at z0 zr hyl
        have HYN := Lib.hid hyn
        have HZR := Lib.hid zr
        have hlay2 : (lay (setT bs ⟨xo, xz, true⟩) (xo + 8) y).length = n := by rw [lay_length _ _ _ (by rw [HSL.out, hyn]; omega)]; exact HSL.out
        have HLL2 := Lib.hid hlay2
        obtain ⟨ad, had⟩ : ∃ ad, base + xo + 8 = ad := ⟨_, rfl⟩
        obtain ⟨bx, hbx⟩ : ∃ bx, base + xo = bx := ⟨_, rfl⟩
        have i3 : (base : Int) + (xo : Int) = (bx : Int) := by omega
        have i1 : (bx : Int) + 8 = (ad : Int) := by omega
        have i2 : ad < 18446744073709551616 := by omega
        have i4 : bx < 18446744073709551616 := by omega
        have hvi : (v : Int) < (dl : Int) := by omega
        have HSTO := Lib.hid (fun W' A5 c5 (h : Ar W' 74 g base cap A5 c5 (setT bs ⟨xo, xz, true⟩)) (hr : Rd W' wB.heap.size A' y.length y) => store_ok h (by rw [HSL.out]; omega) ad (xo + 8) A' kz y wB.heap.size hr (by omega) (by omega) (by omega) (by rw [HSL.out, hyn]; omega))
        rw [hyn] at HSTO
        clear hdv hyd hd' hd2 hyn hlay2 zr hc3 had hbx zl hyl m1 m2 m3 m4 m5
        go_wp2_with (first | (rw [HW4.out]) | fail)
        refine HSETX.out.mono ?_
        rintro e w5 ⟨rfl, hbec⟩
        obtain ⟨A5, c5, s5⟩ := HSM4.out.became hbec
        have hx5 : w5.heap[wr.heap.size]? = _ := (by obtain ⟨_, _, _, ht5, _⟩ := hbec; exact (ht5.block _ (heap_lt1 HN4.out) HNFX.out).trans HN4.out)
        clear e0 e1 e2 hl4 hbec r0 r1 r2
        obtain ⟨e0, e1, e2⟩ := rk_cells hx5
        have hl5 := heap_lt1 hx5
        obtain ⟨wd, hwd⟩ : ∃ wd, w5.drew = wd := ⟨_, rfl⟩
        have hbd : Below w5.heap.size w5 wd := by rw [← hwd]; exact (Below.refl _ _).drew
        have hsmd := s5.below hbd
        obtain ⟨q0, q1, q2⟩ := rk_cells ((hbd.block _ hl5).trans hx5)
        have hld := Nat.lt_of_lt_of_le hl5 hbd.size
        obtain ⟨u0, u1, u2⟩ := rk_cells hsmd.ob
        have hlu := obj_lt hsmd.ob
        have hbB := hsmd.st.bel
        have z4 := (hbB.cell (p := ⟨b3, o3 + v, none⟩) hb3).trans z0
        have hb3d := Nat.lt_of_lt_of_le hb3 hbB.size
        have HBASE := Lib.hid (base_any hsmd.st.ar)
        have HSTOX := Lib.hid (HSTO.out wd A5 c5 hsmd.st.ar (HZR.out.below hbB))
        have HSMD := Lib.hid hsmd
        have HWD := Lib.hid hwd
        clear hx5 hwd hbd s5 hsmd hbB z0
        go_wp2_with fail
        refine wp_region_tail wd.heap.size [([0, 1, 3, 4, 5, 8, 9, 10, 11, 12], 2)] [6, 7] [13] (by kernel_rfl) (by kernel_rfl) (by kernel_rfl) (fun _ _ _ _ _ h => h) ?_
        rw [HWD.out]
        have v0 : ∀ z : LaterB wd.heap.size wd, z.val.cell? ⟨wr.heap.size, 0, none⟩ = some (.int .i64 (xo : Int)) := fun z => (z.ext.cell (p := ⟨wr.heap.size, 0, none⟩) hld).trans q0
        have v1 : ∀ z : LaterB wd.heap.size wd, z.val.cell? ⟨W.heap.size, 2, none⟩ = some (.slice (some ⟨b3, o3, none⟩) dl k2) := fun z => (z.ext.cell (p := ⟨W.heap.size, 2, none⟩) hlu).trans u2
        have v2 : ∀ z : LaterB wd.heap.size wd, z.val.cell? ⟨b3, o3 + v, none⟩ = some (.slice A' yn kz) := fun z => (z.ext.cell (p := ⟨b3, o3 + v, none⟩) hb3d).trans z4
        refine tail_cons (l := ?segA) ?hsegA ?_
        case hsegA => simp only [pick, List.getElem?_toArray, List.getElem?_cons_succ, List.getElem?_cons_zero]; rfl
        repeat (go_big_quiet_step (fail))
        refine wpQuiet_nil ?_
        clear v0 v1 v2
        refine tail_call (vs := #[.pointer (some ⟨g, 0, none⟩)]) Try.call14 rfl rfl rfl (R := fun r w' => r = .int .u64 (base : Int) ∧ w' = wd) (HBASE.out.mono ?_) wd.heap.size (Nat.le_refl _) ?_
        · rintro e w' ⟨rfl, rfl⟩
          exact ⟨_, rfl, Below.refl _ _, rfl, rfl⟩
        rintro r w' _ ⟨rfl, rfl⟩
        simp only [Act.put, List.setIfInBounds_toArray, List.set_cons_zero, List.set_cons_succ]
        refine tail_last (l := ?lastA) (t := ?tailA) ?hlastA ?htailA ?_
        case hlastA => simp only [pick, List.getElem?_toArray, List.getElem?_cons_succ, List.getElem?_cons_zero]; rfl
        case htailA => simp only [pick, List.getElem?_toArray, List.getElem?_cons_succ, List.getElem?_cons_zero]; rfl
        repeat (go_big_quiet_step (fail))
        refine wpQuiet_nil ?_
        clear q0 q1 q2 hld u0 u1 u2 hlu z4 hb3d e0 e1 e2 hl5
        go_wp2_with fail
        refine HSTOX.out.mono ?_
        rintro e w6 ⟨rfl, hbe6⟩
        obtain ⟨A6, c6, s6⟩ := HSMD.out.became hbe6
        have HSM6 := Lib.hid s6
        clear hbe6 s6
        go_wp2_with fail
        go_roundw
        case rel => exact ⟨j + 1, v + 1, A6, c6, _, o, by go_num, by go_num, by omega, by omega, HSM6.out, HLL2.out, HF2.out, HD2.out⟩
        case measure => simp only [intOf]; omega
    · have hd0 : L.drop j = [] := List.drop_eq_nil_of_le (by rw [HM.out]; omega)
      rw [hd0] at hlay
      have hbF : bs = F := hlay
      subst hbF
      have HSM := Lib.hid hsm.st
      clear hsm hlay hdat hd0 hbl
      go_wp2
      go_end0
      exact ⟨rfl, A, c, HSM.out⟩
end Go.Proofs.Ytbemaoncakcnjaa

/- The program's Restore (genres2.py). -/
namespace Go.Proofs.Ytbemaoncakcnjaa
open Go.RowKit

/-- The bytes of the arena of an image. -/
def layOf (n : Int) (l : List Rk) (d : List (List UInt8)) : Option (List UInt8) := rebuildB (layI (List.replicate n.toNat 0) (l.map toB) d)
set_option maxRecDepth 100000 in
set_option maxHeartbeats 1000000 in
theorem rest_bad (w : World) (n : Int) (hn : -9223372036854775808 ≤ n ∧ n ≤ 9223372036854775807) (A1 A2 : Option Addr) (k1 k2 : Nat) (l : List Rk) (d : List (List UInt8)) (hr : RkRd w w.heap.size A1 l) (hd : DtRd w w.heap.size A2 d) (hl : l.length ≤ 1000000) (hdl : d.length ≤ 1000000) (base : Nat) (_hb : base < 18446744073709551616) (cap : Int) (_hc : -9223372036854775808 ≤ cap ∧ cap ≤ 9223372036854775807) (hm : mayI n l d = false) :
    Calls Try.prog 7 #[.agg #[.int .i64 n, .slice A1 l.length k1, .slice A2 d.length k2], .int .u64 (base : Int), .int .i64 cap] w fun e w' => e = .returned (.tuple #[.pointer none, .iface 58 (.int .i64 1)]) ∧ Below w.heap.size w w' := by
  obtain ⟨w1, hw1⟩ : ∃ w1, w.alloc (.cells #[.int .i64 n, .slice A1 l.length k1, .slice A2 d.length k2] 28) = w1 := ⟨_, rfl⟩
  have hb1 : Below w.heap.size w w1 := by rw [← hw1]; exact (Below.refl _ _).alloc (Nat.le_refl _) _
  have n1 : w1.heap[w.heap.size]? = some (.cells #[.int .i64 n, .slice A1 l.length k1, .slice A2 d.length k2] 28 (0, 0)) := by rw [← hw1]; exact heap_alloc_new w _
  have hmay := immay_any w1 n hn A1 A2 k1 k2 l d ((hr.below hb1).more hb1.size) ((hd.below hb1).more hb1.size) hl hdl _ hm
  unfold imV at hmay
  obtain ⟨c0, c1, c2⟩ := rk_cells n1
  have hl1 := heap_lt1 n1
  have HMAY := Lib.hid hmay
  have HB1 := Lib.hid hb1
  have HN1 := Lib.hid n1
  have HW1 := Lib.hid hw1
  have HR := Lib.hid hr
  have HD := Lib.hid hd
  clear hmay hb1 n1 hw1 hr hd hm
  go_enter Try.func7, Try.ntmps7
  go_wp2_with (first | (rw [HW1.out]) | fail)
  refine HMAY.out.mono ?_
  rintro e w2 ⟨rfl, hb2⟩
  have HB2 := Lib.hid (HB1.out.trans (hb2.mono HB1.out.size))
  have n2 := (hb2.block _ (heap_lt1 HN1.out)).trans HN1.out
  have HN2 := Lib.hid n2
  clear c0 c1 c2 hl1 hb2
  obtain ⟨c0, c1, c2⟩ := rk_cells n2
  have hl2 := heap_lt1 n2
  clear n2
  go_wp2
  go_ret2
  exact ⟨rfl, HB2.out⟩
set_option maxRecDepth 100000 in
set_option maxHeartbeats 1000000 in
theorem rest_noar (w : World) (n : Int) (hn : -9223372036854775808 ≤ n ∧ n ≤ 9223372036854775807) (A1 A2 : Option Addr) (k1 k2 : Nat) (l : List Rk) (d : List (List UInt8)) (hr : RkRd w w.heap.size A1 l) (hd : DtRd w w.heap.size A2 d) (hl : l.length ≤ 1000000) (hdl : d.length ≤ 1000000) (base : Nat) (hb : base < 18446744073709551616) (cap : Int) (hc : -9223372036854775808 ≤ cap ∧ cap ≤ 9223372036854775807) (hm : mayI n l d = true) (hno : base % 16 ≠ 0 ∨ 4611686018427387904 < base ∨ cap < 1024 ∨ 16384 < cap) :
    Calls Try.prog 7 #[.agg #[.int .i64 n, .slice A1 l.length k1, .slice A2 d.length k2], .int .u64 (base : Int), .int .i64 cap] w fun e w' => e = .returned (.tuple #[.pointer none, .iface 58 (.int .i64 1)]) ∧ Below w.heap.size w w' := by
  obtain ⟨w1, hw1⟩ : ∃ w1, w.alloc (.cells #[.int .i64 n, .slice A1 l.length k1, .slice A2 d.length k2] 28) = w1 := ⟨_, rfl⟩
  have hb1 : Below w.heap.size w w1 := by rw [← hw1]; exact (Below.refl _ _).alloc (Nat.le_refl _) _
  have n1 : w1.heap[w.heap.size]? = some (.cells #[.int .i64 n, .slice A1 l.length k1, .slice A2 d.length k2] 28 (0, 0)) := by rw [← hw1]; exact heap_alloc_new w _
  have hmay := immay_any w1 n hn A1 A2 k1 k2 l d ((hr.below hb1).more hb1.size) ((hd.below hb1).more hb1.size) hl hdl _ hm
  unfold imV at hmay
  obtain ⟨c0, c1, c2⟩ := rk_cells n1
  have hl1 := heap_lt1 n1
  have HMAY := Lib.hid hmay
  have HB1 := Lib.hid hb1
  have HN1 := Lib.hid n1
  have HW1 := Lib.hid hw1
  have HR := Lib.hid hr
  have HD := Lib.hid hd
  have HNO := Lib.hid (fun W => new_no W base cap hb hc hno)
  clear hmay hb1 n1 hw1 hr hd hm hno
  go_enter Try.func7, Try.ntmps7
  go_wp2_with (first | (rw [HW1.out]) | fail)
  refine HMAY.out.mono ?_
  rintro e w2 ⟨rfl, hb2⟩
  have HB2 := Lib.hid (HB1.out.trans (hb2.mono HB1.out.size))
  have n2 := (hb2.block _ (heap_lt1 HN1.out)).trans HN1.out
  have HN2 := Lib.hid n2
  clear c0 c1 c2 hl1 hb2
  obtain ⟨c0, c1, c2⟩ := rk_cells n2
  have hl2 := heap_lt1 n2
  clear n2
  go_wp2_with fail
  refine (HNO.out w2).mono ?_
  rintro e w3 ⟨rfl, rfl⟩
  go_wp2
  go_ret2
  exact ⟨rfl, HB2.out⟩
set_option maxRecDepth 100000 in
set_option maxHeartbeats 1000000 in
theorem rest_large (w : World) (n : Int) (hn : -9223372036854775808 ≤ n ∧ n ≤ 9223372036854775807) (A1 A2 : Option Addr) (k1 k2 : Nat) (l : List Rk) (d : List (List UInt8)) (hr : RkRd w w.heap.size A1 l) (hd : DtRd w w.heap.size A2 d) (hl : l.length ≤ 1000000) (hdl : d.length ≤ 1000000) (base : Nat) (_hb : base < 18446744073709551616) (cap : Int) (hc : -9223372036854775808 ≤ cap ∧ cap ≤ 9223372036854775807) (hm : mayI n l d = true) (h1 : base % 16 = 0) (h2 : base ≤ 4611686018427387904) (h3 : 1024 ≤ cap) (h4 : cap ≤ 16384) (hlg : cap < n) :
    Calls Try.prog 7 #[.agg #[.int .i64 n, .slice A1 l.length k1, .slice A2 d.length k2], .int .u64 (base : Int), .int .i64 cap] w fun e w' => e = .returned (.tuple #[.pointer none, .iface 58 (.int .i64 10)]) ∧ Below w.heap.size w w' := by
  obtain ⟨cn, rfl⟩ : ∃ cn : Nat, cap = (cn : Int) := ⟨cap.toNat, by omega⟩
  have g1 : decide ((cn : Int) < n) = true := decide_eq_true hlg
  obtain ⟨w1, hw1⟩ : ∃ w1, w.alloc (.cells #[.int .i64 n, .slice A1 l.length k1, .slice A2 d.length k2] 28) = w1 := ⟨_, rfl⟩
  have hb1 : Below w.heap.size w w1 := by rw [← hw1]; exact (Below.refl _ _).alloc (Nat.le_refl _) _
  have n1 : w1.heap[w.heap.size]? = some (.cells #[.int .i64 n, .slice A1 l.length k1, .slice A2 d.length k2] 28 (0, 0)) := by rw [← hw1]; exact heap_alloc_new w _
  have hmay := immay_any w1 n hn A1 A2 k1 k2 l d ((hr.below hb1).more hb1.size) ((hd.below hb1).more hb1.size) hl hdl _ hm
  unfold imV at hmay
  obtain ⟨c0, c1, c2⟩ := rk_cells n1
  have hl1 := heap_lt1 n1
  have HMAY := Lib.hid hmay
  have HB1 := Lib.hid hb1
  have HN1 := Lib.hid n1
  have HW1 := Lib.hid hw1
  have HR := Lib.hid hr
  have HD := Lib.hid hd
  have HNEW := Lib.hid (fun W => new_yes W base cn h1 h2 (by omega) (by omega))
  clear hmay hb1 n1 hw1 hr hd hm
  go_enter Try.func7, Try.ntmps7
  go_wp2_with (first | (rw [HW1.out]) | fail)
  refine HMAY.out.mono ?_
  rintro e w2 ⟨rfl, hb2⟩
  have HB2 := Lib.hid (HB1.out.trans (hb2.mono HB1.out.size))
  have n2 := (hb2.block _ (heap_lt1 HN1.out)).trans HN1.out
  have HN2 := Lib.hid n2
  clear c0 c1 c2 hl1 hb2
  obtain ⟨c0, c1, c2⟩ := rk_cells n2
  have hl2 := heap_lt1 n2
  clear n2
  go_wp2_with fail
  refine (HNEW.out w2).mono ?_
  rintro e w3 ⟨rfl, har, hb3⟩
  have HB3 := Lib.hid (HB2.out.trans (hb3.mono HB2.out.size))
  have n3 := (hb3.block _ (heap_lt1 HN2.out)).trans HN2.out
  clear har hb3 c0 c1 c2 hl2
  obtain ⟨c0, c1, c2⟩ := rk_cells n3
  have hl3 := heap_lt1 n3
  clear n3
  go_wp2
  go_ret2
  exact ⟨rfl, HB3.out⟩
set_option maxRecDepth 100000 in
set_option maxHeartbeats 1000000 in
theorem rest_ok (w : World) (n : Int) (hn : -9223372036854775808 ≤ n ∧ n ≤ 9223372036854775807) (A1 A2 : Option Addr) (k1 k2 : Nat) (l : List Rk) (d : List (List UInt8)) (hr : RkRd w w.heap.size A1 l) (hd : DtRd w w.heap.size A2 d) (hl : l.length ≤ 1000000) (hdl : d.length ≤ 1000000) (base : Nat) (_hb : base < 18446744073709551616) (cap : Int) (hc : -9223372036854775808 ≤ cap ∧ cap ≤ 9223372036854775807) (hm : mayI n l d = true) (h1 : base % 16 = 0) (h2 : base ≤ 4611686018427387904) (h3 : 1024 ≤ cap) (h4 : cap ≤ 16384) (hlg : n ≤ cap) :
    Calls Try.prog 7 #[.agg #[.int .i64 n, .slice A1 l.length k1, .slice A2 d.length k2], .int .u64 (base : Int), .int .i64 cap] w fun e w' => ∃ out H q g A c, layOf n l d = some out ∧ e = .returned (.tuple #[.pointer (some ⟨q, 0, none⟩), .nilIface]) ∧ PH w' q g base cap.toNat A c out H ∧ w.heap.size ≤ q ∧ w.heap.size ≤ g ∧ (∀ a, A = some a → w.heap.size ≤ a.block) ∧ Below w.heap.size w w' := by
  obtain ⟨cn, rfl⟩ : ∃ cn : Nat, cap = (cn : Int) := ⟨cap.toNat, by omega⟩
  have hlo : lenOk n = true := by unfold mayI at hm; rw [Bool.and_eq_true] at hm; exact hm.1
  have hlB := (lenOk_iff n).1 hlo
  obtain ⟨N, rfl⟩ : ∃ N : Nat, n = (N : Int) := ⟨n.toNat, by omega⟩
  have g1 : decide ((cn : Int) < (N : Int)) = false := decide_eq_false (by omega)
  have g1' : decide (cn < N) = false := decide_eq_false (by omega)
  obtain ⟨out, hw0, hl0, hre, hck, hwk, hol, _⟩ := image_laid hm
  have hrow : rowOk (N : Int) 184 false l = true := by unfold mayI at hm; simp only [Bool.and_eq_true] at hm; exact hm.2.1
  have hdat : datOk l d = true := by unfold mayI at hm; simp only [Bool.and_eq_true] at hm; exact hm.2.2
  obtain ⟨htile, hmap, hz⟩ := row_tile (o := 184) hrow
  rw [Int.toNat_natCast] at htile
  have hdb := dat_datB (fun x hx => ⟨(hz x hx).1, (hz x hx).2.1⟩) hdat
  have HLAYOF : Hid (layOf (N : Int) l d = some out) := (show _ = _ by unfold layOf; rw [Int.toNat_natCast]; exact hre)
  obtain ⟨mid, hmid⟩ : ∃ mid, layI (List.replicate N 0) (l.map toB) d = mid := ⟨_, rfl⟩
  rw [hmid] at hl0 hre
  obtain ⟨L, hL⟩ : ∃ L, l.map toB = L := ⟨_, rfl⟩
  have hLl : L.length = l.length := by rw [← hL, List.length_map]
  rw [hL] at htile hdb hmap hmid
  have HLY := Lib.hid (fun wB W g A c (hst : St wB W g base cn A c (List.replicate N 0) []) (hrr : RkRd wB wB.heap.size A1 l) (hdd : DtRd wB wB.heap.size A2 d) => rlay_prog wB W g base cn c A (List.replicate N 0) N L d A1 A2 k1 k2 (N : Int) hst h2 (by simp) (by omega) htile hdb (by rw [← hmap]; exact hrr) hdd)
  rw [hLl, hmid] at HLY
  have HRE := Lib.hid (fun W g A c (h : Ar W 74 g base cn A c mid) => rebuildC W g base cn c A mid _ h h2 (by omega) hre)
  dsimp only [Done, errV] at HRE
  have HOF := Lib.hid (fun W g A c (h : Ar W 74 g base cn A c out) => hof_good h h2 (by omega) (by omega) hck)
  obtain ⟨w1, hw1⟩ : ∃ w1, w.alloc (.cells #[.int .i64 (N : Int), .slice A1 l.length k1, .slice A2 d.length k2] 28) = w1 := ⟨_, rfl⟩
  have hb1 : Below w.heap.size w w1 := by rw [← hw1]; exact (Below.refl _ _).alloc (Nat.le_refl _) _
  have n1 : w1.heap[w.heap.size]? = some (.cells #[.int .i64 (N : Int), .slice A1 l.length k1, .slice A2 d.length k2] 28 (0, 0)) := by rw [← hw1]; exact heap_alloc_new w _
  have hmay := immay_any w1 (N : Int) hn A1 A2 k1 k2 l d ((hr.below hb1).more hb1.size) ((hd.below hb1).more hb1.size) hl hdl _ hm
  unfold imV at hmay
  obtain ⟨c0, c1, c2⟩ := rk_cells n1
  have hl1 := heap_lt1 n1
  have HMAY := Lib.hid hmay
  have HB1 := Lib.hid hb1
  have HN1 := Lib.hid n1
  have HW1 := Lib.hid hw1
  have HR := Lib.hid hr
  have HD := Lib.hid hd
  have HNEW := Lib.hid (fun W => new_yes W base cn h1 h2 (by omega) (by omega))
  clear hmay hb1 n1 hw1 hr hd hm hlo hw0 hl0 hre hck hwk hol hrow hdat htile hmap hz hdb hmid hL hLl hl hdl
  go_enter Try.func7, Try.ntmps7
  go_wp2_with (first | (rw [HW1.out]) | fail)
  refine HMAY.out.mono ?_
  rintro e w2 ⟨rfl, hb2⟩
  have HB2 := Lib.hid (HB1.out.trans (hb2.mono HB1.out.size))
  have n2 := (hb2.block _ (heap_lt1 HN1.out)).trans HN1.out
  have HN2 := Lib.hid n2
  clear c0 c1 c2 hl1 hb2
  obtain ⟨c0, c1, c2⟩ := rk_cells n2
  have hl2 := heap_lt1 n2
  clear n2
  go_wp2_with fail
  refine (HNEW.out w2).mono ?_
  rintro e w3 ⟨rfl, har, hb3⟩
  have HB3 := Lib.hid (HB2.out.trans (hb3.mono HB2.out.size))
  have n3 := (hb3.block _ (heap_lt1 HN2.out)).trans HN2.out
  obtain ⟨g, hg⟩ : ∃ g, w2.heap.size = g := ⟨_, rfl⟩
  rw [hg] at har
  have hgm : w.heap.size < g := by rw [← hg]; exact heap_lt1 HN2.out
  have HS3 : Hid (Sm w2 w3 g base cn none 0 [] w.heap.size (.cells #[.int .i64 (N : Int), .slice A1 l.length k1, .slice A2 d.length k2] 28 (0, 0))) := ⟨⟨hb3, har, by omega, (fun a e => by cases e), (fun q hq => by cases hq)⟩, n3, fun hf => by
    rcases hf with e | ⟨a, e, _⟩
    · omega
    · cases e⟩
  have HGR := Lib.hid (grow_ok har N (by simp) (by omega) (by simp; omega))
  rw [List.nil_append] at HGR
  have HR2 := Lib.hid ((HR.out.below HB2.out).more HB2.out.size)
  have HD2 := Lib.hid ((HD.out.below HB2.out).more HB2.out.size)
  have HGEQ := Lib.hid hg
  clear har hb3 c0 c1 c2 hl2
  rw [hg]
  clear hg
  obtain ⟨c0, c1, c2⟩ := rk_cells n3
  have hl3 := heap_lt1 n3
  clear n3
  go_wp2_with fail
  refine HGR.out.mono ?_
  rintro e w4 ⟨rfl, hbe⟩
  obtain ⟨A4, c4, s4⟩ := HS3.out.became hbe
  have HS4 := Lib.hid s4
  clear c0 c1 c2 hl3 hbe s4
  obtain ⟨c0, c1, c2⟩ := rk_cells HS4.out.ob
  have hl4 := obj_lt HS4.out.ob
  go_wp2_with fail
  refine (HLY.out w2 w4 g A4 c4 HS4.out.st HR2.out HD2.out).mono ?_
  rintro e w5 ⟨rfl, A5, c5, s5⟩
  have HS5 := Lib.hid s5
  clear s5 c0 c1 c2 hl4 HLY
  go_wp2_with fail
  refine (HRE.out w5 g A5 c5 HS5.out.ar).mono ?_
  rintro e w6 ⟨rfl, hbe6⟩
  obtain ⟨A6, c6, s6⟩ := HS5.out.became hbe6
  have HS6 := Lib.hid s6
  clear hbe6 s6 HRE
  go_wp2_with fail
  refine (HOF.out w6 g A6 c6 HS6.out.ar).mono ?_
  rintro e w7 ⟨H, bs', ⟨q1, g1x, A1x, c1x, bs1, he1, hp1, hb7, hq1, hg1x, hA1x⟩, _, hbs, q2, g2, A2x, c2x, he, hph⟩
  rw [he] at he1
  injection he1 with he1
  injection he1 with he1
  have he2 : (Value.pointer (some ⟨q2, 0, none⟩)) = .pointer (some ⟨q1, 0, none⟩) := by
    have := congrArg (fun a => a[0]?) he1
    simpa using this
  injection he2 with he2
  injection he2 with he2
  injection he2 with he2 _ _
  subst he2
  have hgg : g2 = g1x := by
    have e1 := hph.obj
    rw [hp1.obj] at e1
    injection e1 with e1
    injection e1 with e1 _ _
    have := congrArg (fun a => a[0]?) e1
    simp at this
    exact this.symm
  subst hgg
  have hAA : A2x = A1x := by
    have e1 := hph.ar.obj
    rw [hp1.ar.obj] at e1
    injection e1 with e1
    injection e1 with e1 _ _
    have := congrArg (fun a => a[2]?) e1
    simp at this
    exact this.1.symm
  subst hAA
  subst he
  have HPH := Lib.hid hph
  have HBF := Lib.hid (HB2.out.trans ((HS6.out.bel.trans (hb7.mono HS6.out.size)).mono HB2.out.size))
  have hlow := Nat.le_trans HB2.out.size HS6.out.size
  have HQ := Lib.hid (Nat.le_trans hlow hq1)
  have HG := Lib.hid (Nat.le_trans hlow hg1x)
  have HA := Lib.hid (fun a (e : A2x = some a) => Nat.le_trans hlow (hA1x a e))
  clear hp1 hb7 hq1 hg1x hA1x he1 hph hlow hbs HOF
  go_wp2
  go_ret2
  exact ⟨out, H, q2, g2, A2x, c2x, HLAYOF.out, rfl, by rw [Int.toNat_natCast]; exact HPH.out, HQ.out, HG.out, HA.out, HBF.out⟩
end Go.Proofs.Ytbemaoncakcnjaa
