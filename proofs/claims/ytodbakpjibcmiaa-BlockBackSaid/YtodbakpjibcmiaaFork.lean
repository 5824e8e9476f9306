/- A region that draws its order, with one place at which two operations that are no readers may come up, one ahead of the other; a struct of a block made and filled in a region. -/
import Derived.Test.YtodbakpjibcmiaaTail
import Derived.Test.YtodbakpjibcmiaaSt7
namespace Go.Proofs.Ytodbakpjibcmiaa
open Go.RowKit

section
variable {P : Program} {ops : Array Oper} {Q : Exit → Act → World → Prop}
/-- The region: readers first, then either of two, each with an order of its own for what is left. -/
theorem wp_region_fork {id : Nat} {a : Act} {w : World} (B : Nat) (rs : List Nat) (i1 i2 : Nat) (p1 p2 : List (List Nat × Nat)) (last1 last2 T : List Nat) (hm : P.follows .mixedOrders = true) (hsel : Region.noSelect ops = true)
    (hc : (segT ops T (Array.replicate ops.size false) rs && (Region.ready .any ops (mark (Array.replicate ops.size false) rs) == [i1, i2] && (!mv ops i1 && (!mv ops i2 && (planT ops last1 T ((mark (Array.replicate ops.size false) rs).setIfInBounds i1 true) p1 && (planT ops last2 T ((mark (Array.replicate ops.size false) rs).setIfInBounds i2 true) p2 && (1 + planTLen last1 T p1 + rs.length == ops.size && 1 + planTLen last2 T p2 + rs.length == ops.size))))))) = true)
    (hQ : ∀ c a t v w, Q (.panic c) (Act.put a (some t) v) w → Q (.panic c) a w)
    (h : wpQuiet P ops (AfterB B w.drew) (fun a' => wpOp P ops Q i1 (fun a'' w'' => Below B w.drew w'' ∧ ∃ B', B ≤ B' ∧ wpT P ops Q last1 T p1 B' a'' w'') a' w.drew ∧ wpOp P ops Q i2 (fun a'' w'' => Below B w.drew w'' ∧ ∃ B', B ≤ B' ∧ wpT P ops Q last2 T p2 B' a'' w'') a' w.drew) (pick ops rs) a) :
    (Code.region id ops true).wp P Q a w := by
  simp only [Bool.and_eq_true, beq_iff_eq] at hc
  obtain ⟨h1, h2, m1, m2, k1, k2, n1, n2⟩ := hc
  have hs := segT_any (T := T) hsel hQ B w.drew _ (1 + planTLen last1 T p1) rs _ a h1 h (fun a' ha => by
    rw [Nat.add_comm]
    refine ⟨fun h0 => (by rw [h2] at h0; cases h0), fun j hj => ?_⟩
    rw [h2] at hj
    rcases List.mem_cons.1 hj with rfl | hj
    · refine wpOp_mono (fun a'' w'' hh => ⟨fun _ _ => hh.1, fun hm => by simp [hm] at m1, ?_⟩) ha.1
      obtain ⟨hb, B', hB, hm⟩ := hh
      exact wpAnyT_less (fun w3 h4 => hb.trans (h4.mono hB)) _ _ _ _ (planT_any hsel hQ last1 p1 _ B' a'' w'' k1 hm)
    · obtain rfl : j = i2 := by simpa using hj
      have e : planTLen last1 T p1 = planTLen last2 T p2 := by omega
      rw [e]
      refine wpOp_mono (fun a'' w'' hh => ⟨fun _ _ => hh.1, fun hm => by simp [hm] at m2, ?_⟩) ha.2
      obtain ⟨hb, B', hB, hm⟩ := hh
      exact wpAnyT_less (fun w3 h4 => hb.trans (h4.mono hB)) _ _ _ _ (planT_any hsel hQ last2 p2 _ B' a'' w'' k2 hm))
  rw [n1] at hs
  exact wp_region_any hm (wpAnyT_any _ _ _ _ hs)

/-- An operation that yields nothing and writes above the bound. -/
theorem tail_skip {i B : Nat} {o : Oper} {a : Act} {w w1 : World} {K : Act → World → Prop} (ho : ops[i]? = some o) (hd : o.dst = none) (hw : Region.wanted o (yielded ops a.tmps) = true)
    (hr : (execOp a.eval o).run P w = .ok .skip w1) (hb : Below B w w1) (hk : K a w1) : wpOp P ops Q i (fun a'' w'' => Below B w w'' ∧ K a'' w'') a w := by
  unfold wpOp
  simp only [ho]
  rw [if_pos hw]
  refine .inl ?_
  unfold Oper.wp
  rw [hr]
  refine ⟨hb, ?_⟩
  rw [hd]
  exact hk
end

/-- A new block's struct. -/
theorem alloc_blk (ρ : Operand → Value) (o : Oper) (ho : o.op = .alloc 25) (w : World) :
    (execOp ρ o).run Try.prog w = .ok (.value (.pointer (some ⟨w.heap.size, 0, none⟩))) (w.alloc (.cells #[.int .i64 0, .int .i64 0, .bool false] 25)) := by
  unfold execOp
  simp only [ho]
  simp [go_sem]

theorem store_blk (ρ : Operand → Value) (o : Oper) (x y : Operand) (ho : o.op = .store 25 x y) (w : World) (gx : Nat) (p q : Int) (r : Bool) (v0 v1 v2 : Value) (hx : ρ x = .pointer (some ⟨gx, 0, none⟩)) (hy : ρ y = .agg #[.int .i64 p, .int .i64 q, .bool r]) (h : w.heap[gx]? = some (.cells #[v0, v1, v2] 25 (0, 0))) :
    (execOp ρ o).run Try.prog w = .ok .skip (((w.setCell ⟨gx, 0, none⟩ (.int .i64 p)).setCell ⟨gx, 1, none⟩ (.int .i64 q)).setCell ⟨gx, 2, none⟩ (.bool r)) := by
  obtain ⟨⟨e0, e1, e2⟩, f0, f1, f2⟩ := blk_cells h
  unfold execOp
  simp only [ho, hx, hy]
  simp [go_sem, e0, e1, e2, f0, f1, f2]

section
variable {wB W : World} {g base cap c : Nat} {A : Option Addr} {bs : List UInt8} {L : List (Nat × Obj)}
/-- A struct above the bound, and no part of the arena, is filled; one other object is kept. -/
theorem St.put3 (h : St wB W g base cap A c bs L) {gx g9 : Nat} {t : TypeId} {a b d : Value} {o9 : Obj} (hx : W.heap[gx]? = some (.cells #[a, b, d] t (0, 0))) (hn : ¬ foot g A gx) (hB : wB.heap.size ≤ gx) (h9 : W.heap[g9]? = some o9) (hne : g9 ≠ gx) (x y z : Value) :
    St wB (((W.setCell ⟨gx, 0, none⟩ x).setCell ⟨gx, 1, none⟩ y).setCell ⟨gx, 2, none⟩ z) g base cap A c bs [(gx, .cells #[x, y, z] t), (g9, o9)] := by
  have keep : ∀ k, k ≠ gx → (((W.setCell ⟨gx, 0, none⟩ x).setCell ⟨gx, 1, none⟩ y).setCell ⟨gx, 2, none⟩ z).heap[k]? = W.heap[k]? := fun k hk =>
    (Below.heap_setCell _ ⟨gx, 2, none⟩ z k hk).trans ((Below.heap_setCell _ ⟨gx, 1, none⟩ y k hk).trans (Below.heap_setCell _ ⟨gx, 0, none⟩ x k hk))
  refine ⟨((h.bel.setCell (p := ⟨gx, 0, none⟩) hB x).setCell (p := ⟨gx, 1, none⟩) hB y).setCell (p := ⟨gx, 2, none⟩) hB z, h.ar.keep fun k hk => keep k (fun e => hn (e ▸ hk)), h.gB, h.aB, fun p hp => ?_⟩
  rcases List.mem_cons.1 hp with rfl | hp
  · exact blk_set hx x y z
  · obtain rfl : p = (g9, o9) := by simpa using hp
    exact (keep g9 hne).trans h9
theorem St.nofoot (h : St wB W g base cap A c bs L) {k : Nat} (hk : W.heap.size ≤ k) : ¬ foot g A k := fun hf => by have := h.ar.foot_lt hf; omega
end
end Go.Proofs.Ytodbakpjibcmiaa
