/- The program's images: Put (genimg7.py). -/
import Derived.Test.YteomiekjcnpnlaaImg4
import Derived.Test.YteomiekjcnpnlaaImg6
namespace Go.Proofs.Yteomiekjcnpnlaa
open Go.RowKit

section
variable {P : Program}
/-- '[]byte("..")' of a constant: the row's end is marked; its cells are as they were. -/
theorem conv_mark (v : World) (t e : TypeId) (g : Nat) (C : Array Value) (n c : Nat) (ht : P.underlying t = some (.slice e)) (he : P.underlying e = some (.int .u8)) (hg : v.heap[g]? = some (.cells C e (0, 0))) :
    ∃ v', (convert t t (.slice (some ⟨g, 0, none⟩) n c)).run P v = .ok (.slice (some ⟨g, 0, none⟩) n c) v' ∧ v'.heap[g]? = some (.cells C e (C.size, C.size + 1)) ∧ v'.heap.size = v.heap.size ∧ (∀ k, k ≠ g → v'.heap[k]? = v.heap[k]?) ∧ ∀ B, B ≤ g → Below B v v' := by
  have hsh : v.shape? g = some (e, C.size) := by
    unfold World.shape?
    rw [hg]
  refine ⟨v.freeze ⟨g, C.size, none⟩ 1, ?_, ?_, ?_, fun k hk => ?_, fun B hB => ?_⟩
  · simp [convert, run_underlying ht, run_underlying he, markStringish, hsh]
  · unfold World.freeze
    rw [if_neg (by decide)]
    show (v.heap.modify g _)[g]? = _
    rw [Array.getElem?_modify, if_pos rfl, hg]
    rfl
  · unfold World.freeze
    rw [if_neg (by decide)]
    simp
  · unfold World.freeze
    rw [if_neg (by decide)]
    show (v.heap.modify g _)[k]? = _
    rw [Array.getElem?_modify, if_neg (fun e => hk e.symm)]
  · unfold World.freeze
    rw [if_neg (by decide)]
    refine ⟨rfl, rfl, rfl, by simp, fun k hk => ?_⟩
    show (v.heap.modify g _)[k]? = _
    rw [Array.getElem?_modify, if_neg (by omega)]
theorem conv_run {o : Oper} {a : Act} {w w1 : World} {f t : TypeId} {x : Operand} {V V' : Value} (ho : o.op = .convert f t x) (hx : a.eval x = V) (h : (convert f t V).run P w = .ok V' w1) : (execOp a.eval o).run P w = .ok (.value V') w1 := by
  unfold execOp
  simp only [ho]
  rw [hx, Sem.run_bind, h]
  rfl
end
theorem fill_mark {w : World} {g : Nat} {t : TypeId} {fz : Nat × Nat} {bs : List UInt8} (h : w.heap[g]? = some (.cells (rowB bs) t fz)) : Rd w w.heap.size (some ⟨g, 0, none⟩) bs.length bs := by
  have hlt : g < w.heap.size := by
    rcases Nat.lt_or_ge g w.heap.size with h' | h'
    · exact h'
    · rw [Array.getElem?_eq_none h'] at h; cases h
  refine ⟨rfl, fun _ => ⟨g, 0, rfl, hlt, fun j u hu => ?_⟩⟩
  rw [Nat.zero_add, cell_of_row w g j _ _ fz h]
  unfold rowB
  simp [hu]
  rfl
theorem heap_ltz {w : World} {g : Nat} {cs : Array Value} {t : TypeId} {fz : Nat × Nat} (h : w.heap[g]? = some (.cells cs t fz)) : g < w.heap.size := by
  rcases Nat.lt_or_ge g w.heap.size with h' | h'
  · exact h'
  · rw [Array.getElem?_eq_none h'] at h; cases h
theorem run_mark (w : World) : (Instr.buildSlice 24 8 #[(0, .int .u8 67), (1, .int .u8 78), (2, .int .u8 84), (3, .int .u8 76), (4, .int .u8 1), (5, .int .u8 0), (6, .int .u8 0), (7, .int .u8 0)]).run Try.prog w = .ok (.slice (some ⟨w.heap.size, 0, none⟩) 8 8) (w.alloc (.cells (rowB imMarkB) 5)) := by
  have e : rowB imMarkB = #[.int .u8 67, .int .u8 78, .int .u8 84, .int .u8 76, .int .u8 1, .int .u8 0, .int .u8 0, .int .u8 0] := by rfl
  rw [e]
  simp [go_sem]
theorem run_three (w : World) (A B C : Option Addr) (a b c d e f : Nat) : (Instr.buildSlice 51 3 #[(0, .slice A a b), (1, .slice B c d), (2, .slice C e f)]).run Try.prog w = .ok (.slice (some ⟨w.heap.size, 0, none⟩) 3 3) (w.alloc (.cells #[.slice A a b, .slice B c d, .slice C e f] 24)) := by
  simp [go_sem]
/-- Three slices in a row of their own. -/
theorem three_rd {w : World} {g : Nat} {A B C : Option Addr} {a b c : Nat} {x y z : List UInt8} (hg : w.heap[g]? = some (.cells #[.slice A x.length a, .slice B y.length b, .slice C z.length c] 24 (0, 0)))
    (hx : Rd w w.heap.size A x.length x) (hy : Rd w w.heap.size B y.length y) (hz : Rd w w.heap.size C z.length z) (ha : x.length ≤ a ∧ (A = none → a = 0)) (hb : y.length ≤ b ∧ (B = none → b = 0)) (hc : z.length ≤ c ∧ (C = none → c = 0)) (hl : x.length ≤ maxLen ∧ y.length ≤ maxLen ∧ z.length ≤ maxLen) :
    DtRd w w.heap.size (some ⟨g, 0, none⟩) [x, y, z] := fun _ => by
  obtain ⟨c0, c1, c2⟩ := rk_cells hg
  refine ⟨g, 0, rfl, heap_lt1 hg, fun j u hu => ?_⟩
  match j, hu with
  | 0, hu => injection hu with hu; subst hu; exact ⟨A, a, c0, hx, hl.1, ha⟩
  | 1, hu => injection hu with hu; subst hu; exact ⟨B, b, c1, hy, hl.2.1, hb⟩
  | 2, hu => injection hu with hu; subst hu; exact ⟨C, c, c2, hz, hl.2.2, hc⟩
  | j + 3, hu => cases hu
end Go.Proofs.Yteomiekjcnpnlaa
