/- The contracts of the document's own lists: num, bit, one, Free, Member. -/
import Derived.Test.YtodbakpjibcmiaaRef7d
import Derived.Test.YtodbakpjibcmiaaListM
namespace Go.Proofs.Ytodbakpjibcmiaa
open Go.RowKit

theorem layN_eq (bs : List UInt8) (o v : Nat) : layN bs o v = lyN bs o v := by
  unfold layN lay lyN
  rw [lowB_length]

section
variable (w : World)
theorem numO_at (bs : List UInt8) (o : Nat) (h : o + 8 ≤ bs.length) : numO bs (o : Int) = wordN bs o := by
  unfold numO word?
  rw [if_pos (by omega)]
  rfl
theorem div_pow_succ (v k q : Nat) (h : v / 2 ^ k = q) : Value.int .u64 ((q : Int) / 2) = Value.int .u64 ((v / 2 ^ (k + 1) : Nat) : Int) := by
  rw [Nat.pow_succ, ← Nat.div_div_eq_div_mul, h]; simp

end
end Go.Proofs.Ytodbakpjibcmiaa
