/- The contracts of the document's own disk: Cut, Flush, Boot. -/
import Derived.Test.YtkddcfaomaphaaaRk
namespace Go.Proofs.Ytkddcfaomaphaaa
open Go.RowKit

/-- What stands once some stand. -/
def rstand (ls : List Wr) (l : List Wr) : List Wr := l.foldl (fun ls x => ls.set x.s x) ls
theorem rstand_length (l : List Wr) : ∀ ls, (rstand ls l).length = ls.length := by
  induction l with
  | nil => intro ls; rfl
  | cons x r ih => intro ls; show (rstand (ls.set x.s x) r).length = _; rw [ih, List.length_set]
theorem rstand_snoc (ls l : List Wr) (x : Wr) : rstand ls (l ++ [x]) = (rstand ls l).set x.s x := by simp [rstand]

section
variable {S : Nat → Prop} {w : World} {g : Nat} {L : Option Addr} {cl : Nat} {W : Option Addr} {cw : Nat} {ls ws : List Wr} {left : Int} {off : Bool}
set_option maxRecDepth 100000 in
set_option maxHeartbeats 400000 in
theorem rcut_any (k : Rk S w g L cl W cw ls ws left off) (n m : Int) (hm : (if n < 0 then -1 else n) = m) :
    Calls Try.prog 9 #[.pointer (some ⟨g, 0, none⟩), .int .i64 n] w fun e w' => e = .returned (.tuple #[]) ∧ Rk S w' g L cl W cw ls ws m off ∧ Tch S w w' := by
  have c3 := k.c3
  have f3 := k.thaw 3
  have k1 := k.set3 n
  have t1 := Tch.set (S := S) w ⟨g, 3, none⟩ (.int .i64 n) k.sg
  by_cases h0 : n < 0
  · obtain rfl : m = -1 := by rw [if_pos h0] at hm; exact hm.symm
    have c3' := k1.c3
    have f3' := k1.thaw 3
    have K2 := Lib.hid (k1.set3 (-1))
    have T2 := Lib.hid (t1.trans (Tch.set (S := S) _ ⟨g, 3, none⟩ (.int .i64 (-1)) k.sg) (fun _ _ h => h))
    clear hm k k1 t1
    go_enter Try.func9, Try.ntmps9
    go_wp2
    go_end0
    exact ⟨rfl, K2.out, T2.out⟩
  · obtain rfl : n = m := by rw [if_neg h0] at hm; exact hm
    have K1 := Lib.hid k1
    have T1 := Lib.hid t1
    clear hm k k1 t1
    go_enter Try.func9, Try.ntmps9
    go_wp2
    go_end0
    exact ⟨rfl, K1.out, T1.out⟩

end
end Go.Proofs.Ytkddcfaomaphaaa
