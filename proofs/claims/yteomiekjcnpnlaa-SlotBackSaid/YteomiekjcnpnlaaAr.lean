/- Words for an arena in memory: a block of three cells, and the row of bytes that its third cell tells. No program in sight. -/
import Derived.Test.YteomiekjcnpnlaaAppend
import Derived.Lib.AppendZerosOnto
import Derived.Laws.CopyOwn
namespace Go.Proofs.Yteomiekjcnpnlaa
open Go.RowKit

/-- Of what was there only blocks of S have changed. -/
structure Tch (S : Nat → Prop) (w w' : World) : Prop where
  os : w'.os = w.os
  tape : w'.tape = w.tape
  output : w'.output = w.output
  size : w.heap.size ≤ w'.heap.size
  block : ∀ k, k < w.heap.size → ¬ S k → w'.heap[k]? = w.heap[k]?

section
variable {S S' : Nat → Prop} {w w1 w2 w' : World} {B : Nat}
theorem Tch.refl (S : Nat → Prop) (w : World) : Tch S w w := ⟨rfl, rfl, rfl, Nat.le_refl _, fun _ _ _ => rfl⟩
theorem Tch.trans (h : Tch S w w1) (k : Tch S' w1 w2) (hS : ∀ i, i < w.heap.size → S' i → S i) : Tch S w w2 :=
  ⟨k.os.trans h.os, k.tape.trans h.tape, k.output.trans h.output, Nat.le_trans h.size k.size, fun i hi hn =>
    (k.block i (Nat.lt_of_lt_of_le hi h.size) (fun h' => hn (hS i hi h'))).trans (h.block i hi hn)⟩
theorem Tch.of_below (h : Below w.heap.size w w') : Tch S w w' := ⟨h.os, h.tape, h.output, h.size, fun k hk _ => h.block k hk⟩
theorem Tch.below (h : Tch S w w') (hS : ∀ k, S k → B ≤ k) (hB : B ≤ w.heap.size) : Below B w w' :=
  ⟨h.os, h.tape, h.output, h.size, fun k hk => h.block k (by omega) (fun hs => by have := hS k hs; omega)⟩
theorem Tch.drew (h : Tch S w w') : Tch S w w'.drew := ⟨h.os, h.tape, h.output, h.size, h.block⟩
theorem Tch.of_drew (h : Tch S w.drew w') : Tch S w w' := ⟨h.os, h.tape, h.output, h.size, h.block⟩
theorem Tch.set (w : World) (a : Addr) (u : Value) (hS : S a.block) : Tch S w (w.setCell a u) :=
  ⟨rfl, rfl, rfl, by simp [World.setCell], fun k _ hn => Below.heap_setCell w a u k (fun e => hn (e ▸ hS))⟩
theorem Tch.grown {row : Option Nat} (h : w.grownBy w' row) (hS : ∀ k, row = some k → S k) : Tch S w w' :=
  ⟨h.os, h.tape, h.output, h.size, fun k hk hn => h.block k hk (fun e => hn (hS k e.symm))⟩
end

/-- The blocks of an arena: its own, and its bytes'. -/
def foot (g : Nat) (A : Option Addr) (k : Nat) : Prop := k = g ∨ ∃ a, A = some a ∧ k = a.block

/-- At block g lies an arena (of type t) with this base and capacity, and these bytes. -/
structure Ar (w : World) (t : TypeId) (g base cap : Nat) (A : Option Addr) (c : Nat) (bs : List UInt8) : Prop where
  obj : w.heap[g]? = some (.cells #[.int .u64 (base : Int), .int .i64 (cap : Int), .slice A bs.length c] t (0, 0))
  own : w.ownsRow 0 5 1 (.slice A bs.length c) bs.length (bs.map bv)

section
variable {w w' : World} {t : TypeId} {g base cap c : Nat} {A : Option Addr} {bs : List UInt8}
theorem heap_lt {o : Obj} (h : w.heap[g]? = some o) : g < w.heap.size := by
  rcases Nat.lt_or_ge g w.heap.size with h1 | h1
  · exact h1
  · rw [Array.getElem?_eq_none h1] at h; cases h
theorem Ar.lt (h : Ar w t g base cap A c bs) : g < w.heap.size := heap_lt h.obj
theorem Ar.c0 (h : Ar w t g base cap A c bs) : w.cell? ⟨g, 0, none⟩ = some (.int .u64 (base : Int)) := by rw [cell_of_row w g 0 _ t (0, 0) h.obj]; rfl
theorem Ar.c1 (h : Ar w t g base cap A c bs) : w.cell? ⟨g, 1, none⟩ = some (.int .i64 (cap : Int)) := by rw [cell_of_row w g 1 _ t (0, 0) h.obj]; rfl
theorem Ar.c2 (h : Ar w t g base cap A c bs) : w.cell? ⟨g, 2, none⟩ = some (.slice A bs.length c) := by rw [cell_of_row w g 2 _ t (0, 0) h.obj]; rfl
theorem Ar.thaw (h : Ar w t g base cap A c bs) (i : Nat) : w.frozen? ⟨g, i, none⟩ = false := frozen_of_row w g i _ t h.obj
theorem Ar.drew (h : Ar w t g base cap A c bs) : Ar w.drew t g base cap A c bs := ⟨h.obj, h.own⟩
theorem Ar.drewN (h : Ar w t g base cap A c bs) (k : Nat) : Ar (w.drewN k) t g base cap A c bs := ⟨h.obj, h.own⟩
theorem Ar.alt (h : Ar w t g base cap A c bs) {a : Addr} (e : A = some a) : a.block < w.heap.size := by subst e; exact (h.own.lt a.block rfl).2
/-- The bytes' row, where there is one. -/
theorem Ar.row (h : Ar w t g base cap A c bs) {a : Addr} (e : A = some a) : ∃ h', a = ⟨h', 0, none⟩ ∧ ∃ cur : Array Value, w.heap[h']? = some (.cells cur 5 (0, 0)) ∧ bs.length ≤ c ∧ c ≤ maxLen ∧ cur.size = c ∧ cur.toList.take bs.length = bs.map bv := by
  subst e
  rcases h.own.2 with ⟨h', _⟩ | ⟨g', cap', cur, h', _, hg, h1, h2, h3, h4⟩
  · cases h'
  · injection h' with e1 e2 e3
    injection e1 with e1
    subst e1 e3
    exact ⟨g', rfl, cur, hg, h1, h2, by simpa using h3, by simpa using h4⟩
theorem Ar.none_ (h : Ar w t g base cap none c bs) : bs = [] ∧ c = 0 := by
  rcases h.own.2 with ⟨h', h0⟩ | ⟨g', cap', cur, h', _⟩
  · injection h' with _ _ e
    exact ⟨List.eq_nil_of_length_eq_zero h0, e⟩
  · injection h' with e; cases e
theorem Ar.le (h : Ar w t g base cap A c bs) : bs.length ≤ c := by
  rcases A with _ | a
  · obtain ⟨rfl, rfl⟩ := h.none_; simp
  · obtain ⟨_, _, _, _, h1, _⟩ := h.row rfl; exact h1
theorem Ar.reads (h : Ar w t g base cap A c bs) : Rd w w.heap.size A bs.length bs := by
  obtain ⟨A', c', e, _, hr⟩ := own_any h.own
  injection e with e1
  subst e1
  exact hr
theorem Ar.keep (h : Ar w t g base cap A c bs) (hk : ∀ k, foot g A k → w'.heap[k]? = w.heap[k]?) : Ar w' t g base cap A c bs := by
  refine ⟨(hk g (.inl rfl)).trans h.obj, h.own.1, ?_⟩
  rcases h.own.2 with h2 | ⟨g', cap', cur, hv, hg, hh, r⟩
  · exact .inl h2
  · refine .inr ⟨g', cap', cur, hv, hg, ?_, r⟩
    injection hv with e
    exact (hk g' (.inr ⟨_, e, rfl⟩)).trans hh
theorem Ar.foot_lt (h : Ar w t g base cap A c bs) {k : Nat} (hk : foot g A k) : k < w.heap.size := by
  rcases hk with rfl | ⟨a, e, rfl⟩
  · exact h.lt
  · exact h.alt e
theorem Ar.tch {S : Nat → Prop} (h : Ar w t g base cap A c bs) (ht : Tch S w w') (hd : ∀ k, foot g A k → ¬ S k) : Ar w' t g base cap A c bs :=
  h.keep fun k hk => ht.block k (h.foot_lt hk) (hd k hk)
theorem Ar.below (h : Ar w t g base cap A c bs) (hb : Below w.heap.size w w') : Ar w' t g base cap A c bs :=
  h.keep fun k hk => hb.block k (h.foot_lt hk)
theorem Rd.tch {S : Nat → Prop} {n : Nat} (h : Rd w w.heap.size A n bs) (ht : Tch S w w') (hd : ∀ a, A = some a → ¬ S a.block) : Rd w' w'.heap.size A n bs := by
  refine ⟨h.1, fun hn => ?_⟩
  obtain ⟨b, off, e, hb, hc⟩ := h.2 hn
  refine ⟨b, off, e, Nat.lt_of_lt_of_le hb ht.size, fun j u hu => ?_⟩
  exact (World.cell?_of_block (w := w) (a := ⟨b, off + j, none⟩) (ht.block b hb (hd _ e))).trans (hc j u hu)
end

end Go.Proofs.Yteomiekjcnpnlaa
