/- Words for a disk in memory: its object, the row of bytes that stands, the row of writes that wait, and their bytes. No program in sight. -/
import Derived.Test.YtkddcfaomaphaaaStore
import Derived.Test.YtkddcfaomaphaaaTail
namespace Go.Proofs.Ytkddcfaomaphaaa
open Go.RowKit

/-- A write that waits: its sector; the block, the room and the bytes of what is written. -/
structure Wr where
  s : Nat
  b : Nat
  c : Nat
  d : List UInt8
def Wr.cells (x : Wr) : List Value := [.int .i64 (x.s : Int), .slice (some ⟨x.b, 0, none⟩) 512 x.c]
def Wr.two (x : Wr) : Nat × List UInt8 := (x.s, x.d)
def flat : List Wr → List Value
  | [] => []
  | x :: r => .int .i64 (x.s : Int) :: .slice (some ⟨x.b, 0, none⟩) 512 x.c :: flat r
theorem flat_length : ∀ ws : List Wr, (flat ws).length = ws.length * 2
  | [] => rfl
  | x :: r => by simp [flat, flat_length r]; omega
theorem flat_append (a b : List Wr) : flat (a ++ b) = flat a ++ flat b := by
  induction a with
  | nil => rfl
  | cons x r ih => simp [flat, ih]
theorem flat_get : ∀ (ws : List Wr) (i : Nat) (x : Wr), ws[i]? = some x → (flat ws)[i * 2]? = some (.int .i64 (x.s : Int)) ∧ (flat ws)[i * 2 + 1]? = some (.slice (some ⟨x.b, 0, none⟩) 512 x.c)
  | [], _, _, h => by simp at h
  | y :: r, 0, x, h => by
    simp at h; subst h
    exact ⟨rfl, rfl⟩
  | y :: r, i + 1, x, h => by
    have := flat_get r i x (by simpa using h)
    have e : (i + 1) * 2 = i * 2 + 1 + 1 := by omega
    rw [e]
    exact ⟨by simpa [flat] using this.1, by simpa [flat] using this.2⟩

/-- Block b begins with the bytes d. -/
def Fil (w : World) (b : Nat) (d : List UInt8) : Prop := ∃ cur : Array Value, w.heap[b]? = some (.cells cur 5 (0, 0)) ∧ d.length ≤ cur.size ∧ cur.toList.take d.length = d.map bv

section
variable {w w' : World} {b : Nat} {d : List UInt8}
theorem Fil.lt (h : Fil w b d) : b < w.heap.size := by
  obtain ⟨_, h, _⟩ := h
  exact heap_lt h
theorem Fil.keep (h : Fil w b d) (hk : w'.heap[b]? = w.heap[b]?) : Fil w' b d := by
  obtain ⟨cur, h1, h2⟩ := h
  exact ⟨cur, hk.trans h1, h2⟩
theorem Fil.reads (h : Fil w b d) : Rd w w.heap.size (some ⟨b, 0, none⟩) d.length d := by
  have hlt := h.lt
  obtain ⟨cur, h1, h2, h3⟩ := h
  refine ⟨rfl, fun _ => ⟨b, 0, rfl, hlt, fun j u hu => ?_⟩⟩
  have hj : j < d.length := by
    rcases Nat.lt_or_ge j d.length with h | h
    · exact h
    · rw [List.getElem?_eq_none h] at hu; cases hu
  rw [Nat.zero_add, cell_of_row w b j _ _ (0, 0) h1]
  have : (cur.toList.take d.length)[j]? = (d.map bv)[j]? := by rw [h3]
  rw [List.getElem?_take_of_lt hj, List.getElem?_map, hu] at this
  simpa [bv] using this
theorem Fil.of_own {base n c g : Nat} (h : w.ownsRow base 5 1 (.slice (some ⟨g, 0, none⟩) n c) n (d.map bv)) : Fil w g d := by
  rcases h.2 with ⟨h', _⟩ | ⟨g', cap, cur, h', _, hh, hnc, _, hcs, hcur⟩
  · cases h'
  · injection h' with e1 e2 e3
    injection e1 with e1
    injection e1 with e1
    subst e1
    have e : n = d.length := by have := h.1; simpa using this.symm
    subst e
    exact ⟨cur, hh, by omega, by simpa using hcur⟩
end

/-- At block g lies a disk on which bs stands, and ws waits; all its blocks are of S. -/
structure Dk (S : Nat → Prop) (w : World) (g h c : Nat) (W : Option Addr) (cw : Nat) (bs : List UInt8) (ws : List Wr) (left : Int) (off : Bool) : Prop where
  obj : w.heap[g]? = some (.cells #[.slice (some ⟨h, 0, none⟩) bs.length c, .slice W ws.length cw, .int .i64 left, .bool off] 53 (0, 0))
  own : w.ownsRow 0 5 1 (.slice (some ⟨h, 0, none⟩) bs.length c) bs.length (bs.map bv)
  wai : w.ownsRow 0 61 2 (.slice W ws.length cw) ws.length (flat ws)
  row : ∀ x ∈ ws, x.s * 512 + 512 ≤ bs.length ∧ x.b ≠ h ∧ x.d.length = 512 ∧ Fil w x.b x.d
  sg : S g
  sh : S h
  sw : ∀ a, W = some a → S a.block
  sx : ∀ x ∈ ws, S x.b

/-- S, and what was made between w and w'. -/
def grow (S : Nat → Prop) (w w' : World) (k : Nat) : Prop := S k ∨ (w.heap.size ≤ k ∧ k < w'.heap.size)

theorem own_keep {w w' : World} {base n size : Nat} {e : TypeId} {v : Value} {xs : List Value} (h : w.ownsRow base e size v n xs) (hk : ∀ k, v.ownBlock = some k → w'.heap[k]? = w.heap[k]?) : w'.ownsRow base e size v n xs := by
  refine ⟨h.1, ?_⟩
  rcases h.2 with h2 | ⟨g, cap, cur, hv, hg, hh, r⟩
  · exact .inl h2
  · refine .inr ⟨g, cap, cur, hv, hg, ?_, r⟩
    rw [hk g (by rw [hv]; rfl)]; exact hh

theorem own_type {w : World} {base n size c : Nat} {e : TypeId} {a : Addr} {xs : List Value} (h : w.ownsRow base e size (.slice (some a) n c) n xs) : ∃ b, a = ⟨b, 0, none⟩ ∧ ∃ cur, w.heap[b]? = some (.cells cur e (0, 0)) := by
  rcases h.2 with ⟨h', _⟩ | ⟨g', cap, cur, h', _, hh, _⟩
  · cases h'
  · injection h' with e1
    injection e1 with e1
    exact ⟨g', e1, cur, hh⟩
theorem type_ne {w : World} {a b : Nat} {s t : TypeId} {x y : Array Value} (h : w.heap[a]? = some (.cells x s (0, 0))) (k : w.heap[b]? = some (.cells y t (0, 0))) (hne : s ≠ t) : a ≠ b := by
  intro e
  subst e
  rw [h] at k
  injection k with k
  injection k with _ k
  exact hne k

section
variable {S S' : Nat → Prop} {w w' : World} {g h c : Nat} {W : Option Addr} {cw : Nat} {bs : List UInt8} {ws : List Wr} {left : Int} {off : Bool}
theorem Dk.c0 (k : Dk S w g h c W cw bs ws left off) : w.cell? ⟨g, 0, none⟩ = some (.slice (some ⟨h, 0, none⟩) bs.length c) := by rw [cell_of_row w g 0 _ _ (0, 0) k.obj]; rfl
theorem Dk.c1 (k : Dk S w g h c W cw bs ws left off) : w.cell? ⟨g, 1, none⟩ = some (.slice W ws.length cw) := by rw [cell_of_row w g 1 _ _ (0, 0) k.obj]; rfl
theorem Dk.c2 (k : Dk S w g h c W cw bs ws left off) : w.cell? ⟨g, 2, none⟩ = some (.int .i64 left) := by rw [cell_of_row w g 2 _ _ (0, 0) k.obj]; rfl
theorem Dk.c3 (k : Dk S w g h c W cw bs ws left off) : w.cell? ⟨g, 3, none⟩ = some (.bool off) := by rw [cell_of_row w g 3 _ _ (0, 0) k.obj]; rfl
theorem Dk.thaw (k : Dk S w g h c W cw bs ws left off) (i : Nat) : w.frozen? ⟨g, i, none⟩ = false := frozen_of_row w g i _ _ k.obj
theorem Dk.lt (k : Dk S w g h c W cw bs ws left off) : g < w.heap.size := heap_lt k.obj
theorem Dk.hlt (k : Dk S w g h c W cw bs ws left off) : h < w.heap.size := (k.own.lt h rfl).2
theorem Dk.wlt (k : Dk S w g h c W cw bs ws left off) {a : Addr} (e : W = some a) : a.block < w.heap.size := by subst e; exact (k.wai.lt a.block rfl).2
theorem Dk.xlt (k : Dk S w g h c W cw bs ws left off) {x : Wr} (hx : x ∈ ws) : x.b < w.heap.size := (k.row x hx).2.2.2.lt
theorem Dk.reads (k : Dk S w g h c W cw bs ws left off) : Rd w w.heap.size (some ⟨h, 0, none⟩) bs.length bs := (Fil.of_own k.own).reads
theorem Dk.cap (k : Dk S w g h c W cw bs ws left off) : bs.length ≤ c ∧ c ≤ maxLen := by
  rcases k.own.2 with ⟨h', _⟩ | ⟨_, _, _, h', _, _, h1, h2, _⟩
  · cases h'
  · injection h' with _ _ e
    subst e
    exact ⟨h1, h2⟩
theorem Dk.wcap (k : Dk S w g h c W cw bs ws left off) : ws.length ≤ cw ∧ cw ≤ maxLen := by
  rcases k.wai.2 with ⟨h', h0⟩ | ⟨_, _, _, h', _, _, h1, h2, _⟩
  · injection h' with _ _ e
    subst e
    rw [h0]
    exact ⟨Nat.le_refl _, Nat.zero_le _⟩
  · injection h' with _ _ e
    subst e
    exact ⟨h1, h2⟩
theorem Dk.gh (k : Dk S w g h c W cw bs ws left off) : g ≠ h := by
  obtain ⟨b, e, cur, hc⟩ := own_type k.own
  injection e with e
  subst e
  exact type_ne k.obj hc (by decide)
theorem Dk.wg (k : Dk S w g h c W cw bs ws left off) {a : Addr} (e : W = some a) : a.block ≠ g ∧ a.block ≠ h ∧ ∀ x ∈ ws, x.b ≠ a.block := by
  subst e
  obtain ⟨b, e, cur, hc⟩ := own_type k.wai
  obtain ⟨b2, e2, cur2, hc2⟩ := own_type k.own
  injection e2 with e2
  subst e e2
  refine ⟨type_ne hc k.obj (by decide), type_ne hc hc2 (by decide), fun x hx => ?_⟩
  obtain ⟨cur3, h3, _⟩ := (k.row x hx).2.2.2
  exact type_ne h3 hc (by decide)
theorem Dk.xg (k : Dk S w g h c W cw bs ws left off) {x : Wr} (hx : x ∈ ws) : x.b ≠ g := by
  obtain ⟨cur3, h3, _⟩ := (k.row x hx).2.2.2
  exact type_ne h3 k.obj (by decide)

/-- The disk's blocks. -/
def footD (g h : Nat) (W : Option Addr) (ws : List Wr) (k : Nat) : Prop := k = g ∨ k = h ∨ (∃ a, W = some a ∧ k = a.block) ∨ ∃ x ∈ ws, k = x.b
theorem Dk.foot (k : Dk S w g h c W cw bs ws left off) {j : Nat} (hj : footD g h W ws j) : S j ∧ j < w.heap.size := by
  rcases hj with rfl | rfl | ⟨a, e, rfl⟩ | ⟨x, hx, rfl⟩
  · exact ⟨k.sg, k.lt⟩
  · exact ⟨k.sh, k.hlt⟩
  · exact ⟨k.sw a e, k.wlt e⟩
  · exact ⟨k.sx x hx, k.xlt hx⟩
theorem Dk.keep (k : Dk S w g h c W cw bs ws left off) (hk : ∀ j, footD g h W ws j → w'.heap[j]? = w.heap[j]?) : Dk S w' g h c W cw bs ws left off := by
  refine ⟨(hk g (.inl rfl)).trans k.obj, own_keep k.own fun j hj => ?_, own_keep k.wai fun j hj => ?_, fun x hx => ?_, k.sg, k.sh, k.sw, k.sx⟩
  · injection hj with hj
    subst hj
    exact hk _ (.inr (.inl rfl))
  · rcases W with _ | a
    · cases hj
    · injection hj with hj
      subst hj
      exact hk _ (.inr (.inr (.inl ⟨a, rfl, rfl⟩)))
  · obtain ⟨h1, h2, h3, h4⟩ := k.row x hx
    exact ⟨h1, h2, h3, h4.keep (hk _ (.inr (.inr (.inr ⟨x, hx, rfl⟩))))⟩
theorem Dk.below (k : Dk S w g h c W cw bs ws left off) (hb : Below w.heap.size w w') : Dk S w' g h c W cw bs ws left off := k.keep fun j hj => hb.block j (k.foot hj).2
theorem Dk.tch {R : Nat → Prop} (k : Dk S w g h c W cw bs ws left off) (ht : Tch R w w') (hd : ∀ j, S j → ¬ R j) : Dk S w' g h c W cw bs ws left off := k.keep fun j hj => ht.block j (k.foot hj).2 (hd j (k.foot hj).1)
theorem Dk.more (k : Dk S w g h c W cw bs ws left off) (hS : ∀ j, footD g h W ws j → S' j) : Dk S' w g h c W cw bs ws left off :=
  ⟨k.obj, k.own, k.wai, k.row, hS _ (.inl rfl), hS _ (.inr (.inl rfl)), fun a e => hS _ (.inr (.inr (.inl ⟨a, e, rfl⟩))), fun x hx => hS _ (.inr (.inr (.inr ⟨x, hx, rfl⟩)))⟩
theorem Dk.drew (k : Dk S w g h c W cw bs ws left off) : Dk S w.drew g h c W cw bs ws left off := ⟨k.obj, k.own, k.wai, k.row, k.sg, k.sh, k.sw, k.sx⟩
theorem Dk.drewN (k : Dk S w g h c W cw bs ws left off) (n : Nat) : Dk S (w.drewN n) g h c W cw bs ws left off := ⟨k.obj, k.own, k.wai, k.row, k.sg, k.sh, k.sw, k.sx⟩

/-- The object's cells are others; the rows stay. -/
theorem Dk.obj_ {left' : Int} {off' : Bool} (k : Dk S w g h c W cw bs ws left off) (ho : w'.heap[g]? = some (.cells #[.slice (some ⟨h, 0, none⟩) bs.length c, .slice W ws.length cw, .int .i64 left', .bool off'] 53 (0, 0)))
    (hk : ∀ j, j ≠ g → w'.heap[j]? = w.heap[j]?) : Dk S w' g h c W cw bs ws left' off' := by
  refine ⟨ho, own_keep k.own fun j hj => ?_, own_keep k.wai fun j hj => ?_, fun x hx => ?_, k.sg, k.sh, k.sw, k.sx⟩
  · injection hj with hj
    subst hj
    exact hk _ k.gh.symm
  · rcases W with _ | a
    · cases hj
    · injection hj with hj
      subst hj
      exact hk _ (k.wg rfl).1
  · obtain ⟨h1, h2, h3, h4⟩ := k.row x hx
    exact ⟨h1, h2, h3, h4.keep (hk _ (k.xg hx))⟩
theorem Dk.set2 (k : Dk S w g h c W cw bs ws left off) (n : Int) : Dk S (w.setCell ⟨g, 2, none⟩ (.int .i64 n)) g h c W cw bs ws n off :=
  k.obj_ (by rw [heap_setCell_same w g 2 _ _ _ k.obj]; rfl) fun j hj => Below.heap_setCell _ _ _ _ hj
theorem Dk.set3 (k : Dk S w g h c W cw bs ws left off) (b : Bool) : Dk S (w.setCell ⟨g, 3, none⟩ (.bool b)) g h c W cw bs ws left b :=
  k.obj_ (by rw [heap_setCell_same w g 3 _ _ _ k.obj]; rfl) fun j hj => Below.heap_setCell _ _ _ _ hj
/-- Nothing waits any more. -/
theorem Dk.none_ (k : Dk S w g h c W cw bs ws left off) : Dk S (w.setCell ⟨g, 1, none⟩ (.slice none 0 0)) g h c none 0 bs [] left off := by
  have hk : ∀ j, j ≠ g → (w.setCell ⟨g, 1, none⟩ (.slice none 0 0)).heap[j]? = w.heap[j]? := fun j hj => Below.heap_setCell _ _ _ _ hj
  refine ⟨by rw [heap_setCell_same w g 1 _ _ _ k.obj]; rfl, own_keep k.own fun j hj => ?_, World.ownsRow_nil _ _ _ _, (fun x hx => by cases hx), k.sg, k.sh, (fun a e => by cases e), (fun x hx => by cases hx)⟩
  injection hj with hj
  subst hj
  exact hk _ k.gh.symm
/-- A sector stands anew. -/
theorem Dk.over (k : Dk S w g h c W cw bs ws left off) {cur : Array Value} (hrow : w.heap[h]? = some (.cells cur 5 (0, 0))) (hsz : cur.size = c) (htake : cur.toList.take bs.length = bs.map bv) (off' : Nat) (cs : List UInt8) (hfit : off' + cs.length ≤ bs.length) :
    Dk S (w.setRow h (cur.toList.take off' ++ (cs.map bv ++ cur.toList.drop (off' + (cs.map bv).length))).toArray) g h c W cw (lay bs off' cs) ws left off := by
  have hle := k.cap.1
  have hlen := lay_length bs off' cs hfit
  have hk : ∀ j, j ≠ h → (w.setRow h (cur.toList.take off' ++ (cs.map bv ++ cur.toList.drop (off' + (cs.map bv).length))).toArray).heap[j]? = w.heap[j]? := fun j hj => setRow_other w h j _ hj
  refine ⟨?_, ⟨?_, .inr ⟨h, c, _, by rw [hlen], Nat.zero_le _, setRow_heap w h _ _ _ _ hrow, by omega, k.cap.2, ?_, ?_⟩⟩, own_keep k.wai fun j hj => ?_, fun x hx => ?_, k.sg, k.sh, k.sw, k.sx⟩
  · rw [hk g k.gh, hlen]
    exact k.obj
  · simp
  · simp; omega
  · rw [Nat.mul_one, hlen, List.toList_toArray]
    have e1 : cur.toList = bs.map bv ++ cur.toList.drop bs.length := by rw [← htake, List.take_append_drop]
    have e2 : bs.length = (bs.map bv).length := by simp
    rw [e1, e2]
    rw [over_take (bs.map bv) _ off' (cs.map bv) (by simpa using hfit)]
    simp [lay]
  · rcases W with _ | a
    · cases hj
    · injection hj with hj
      subst hj
      exact hk _ (k.wg rfl).2.1
  · obtain ⟨h1, h2, h3, h4⟩ := k.row x hx
    exact ⟨by omega, h2, h3, h4.keep (hk _ h2)⟩
theorem Dk.curs (k : Dk S w g h c W cw bs ws left off) : ∃ cur : Array Value, w.heap[h]? = some (.cells cur 5 (0, 0)) ∧ cur.size = c ∧ cur.toList.take bs.length = bs.map bv := by
  rcases k.own.2 with ⟨h', _⟩ | ⟨g', cap, cur, h', _, hh, _, _, hs, ht⟩
  · cases h'
  · injection h' with e1 e2 e3
    injection e1 with e1
    injection e1 with e1
    subst e1 e3
    exact ⟨cur, hh, by simpa using hs, by simpa using ht⟩
/-- What waits at place i. -/
theorem Dk.at_ (k : Dk S w g h c W cw bs ws left off) {i : Nat} {x : Wr} (hx : ws[i]? = some x) : ∃ gw, W = some ⟨gw, 0, none⟩ ∧ w.cell? ⟨gw, i * 2, none⟩ = some (.int .i64 (x.s : Int)) ∧ w.cell? ⟨gw, i * 2 + 1, none⟩ = some (.slice (some ⟨x.b, 0, none⟩) 512 x.c) := by
  have hi : i < ws.length := by
    rcases Nat.lt_or_ge i ws.length with h | h
    · exact h
    · rw [List.getElem?_eq_none h] at hx; cases hx
  obtain ⟨f1, f2⟩ := flat_get ws i x hx
  have hw := k.wai
  rcases W with _ | a
  · rcases hw.2 with ⟨_, h0⟩ | ⟨_, _, _, h', _⟩
    · omega
    · injection h' with e; cases e
  · obtain ⟨gw, rfl, _⟩ := own_type hw
    exact ⟨gw, rfl, by rw [hw.cellAt _ (by omega)]; exact f1, by rw [hw.cellAt _ (by omega)]; exact f2⟩
end

end Go.Proofs.Ytkddcfaomaphaaa
