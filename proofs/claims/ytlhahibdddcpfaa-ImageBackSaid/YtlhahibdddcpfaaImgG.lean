/- What Get tells of bytes, plainly. -/
import Derived.Test.YtlhahibdddcpfaaImgM
import Derived.Test.YtlhahibdddcpfaaTagM
namespace Go.Proofs.Ytlhahibdddcpfaa

/-- Does the sum of b[i:j] stand at j? -/
def sumAt (b : List UInt8) (i j : Nat) : Bool := numB ((b.drop j).take 4) == moreN 0 ((b.drop i).take (j - i))
/-- The blocks of so many tags. -/
def blksOf : List UInt8 → Nat → Nat → Option (List Rk)
  | _, 0, _ => some []
  | b, k + 1, o => match unpN (numB (b.take 8)) with
    | none => none
    | some (s, u) => (blksOf (b.drop 8) k (o + s)).map (⟨(o : Int), (s : Int), u⟩ :: ·)
def heldL : List Rk → Nat
  | [] => 0
  | x :: l => (if x.u then x.s.toNat - 16 else 0) + heldL l
/-- What the used blocks hold. -/
def cutL : List Rk → List UInt8 → List (List UInt8)
  | [], _ => []
  | x :: l, b => if x.u then b.take (x.s.toNat - 16) :: cutL l (b.drop (x.s.toNat - 16)) else cutL l b
def lenN (b : List UInt8) : Nat := numB ((b.drop 8).take 8)
def cntN (b : List UInt8) : Nat := numB ((b.drop 16).take 8)
/-- The head: 0, or an error's number. -/
def headG (b : List UInt8) : Nat :=
  if b.length < 28 then 3 else if b.take 8 ≠ markB then 3 else if sumAt b 0 24 = false then 9
  else if lenOk (lenN b : Int) = false then 3 else if 1024 < cntN b then 3 else 0
def rowG (n : Nat) (o : Option (List Rk)) : Nat × List Rk := match o with
  | none => (3, [])
  | some l => if rowOk (n : Int) 184 false l = false then (3, []) else (0, l)
/-- The blocks: an error's number, or they. -/
def blksG (b : List UInt8) (n k : Nat) : Nat × List Rk :=
  if b.length < 32 + 8 * k then (3, []) else if sumAt b 28 (28 + 8 * k) = false then (9, [])
  else rowG n (blksOf (b.drop 28) k 184)
/-- What they hold. -/
def datG (b : List UInt8) (l : List Rk) : Nat × List (List UInt8) :=
  if b.length ≠ 32 + 8 * l.length + heldL l + 8 then (3, [])
  else if sumAt b (32 + 8 * l.length) (32 + 8 * l.length + heldL l) = false then (9, [])
  else if sumAt b 0 (32 + 8 * l.length + heldL l + 4) = false then (9, [])
  else (0, cutL l (b.drop (32 + 8 * l.length)))
theorem blksOf_len : ∀ {k : Nat} {b : List UInt8} {o : Nat} {l : List Rk}, blksOf b k o = some l → l.length = k
  | 0, b, o, l, h => by
    rw [blksOf] at h
    injection h with h
    rw [← h]; rfl
  | k + 1, b, o, l, h => by
    rw [blksOf] at h
    split at h
    · cases h
    · rename_i s u e
      cases hm : blksOf (b.drop 8) k (o + s) with
      | none => rw [hm] at h; cases h
      | some l' =>
        rw [hm] at h
        injection h with h
        rw [← h, List.length_cons, blksOf_len hm]
/-- One tag more, at the end. -/
theorem blksOf_snoc : ∀ {k : Nat} {b : List UInt8} {o : Nat} {l : List Rk}, blksOf b k o = some l → blksOf b (k + 1) o = match unpN (numB ((b.drop (8 * k)).take 8)) with
    | none => none
    | some (s, u) => some (l ++ [⟨((o + (l.map (·.s.toNat)).sum : Nat) : Int), (s : Int), u⟩])
  | 0, b, o, l, h => by
    rw [blksOf] at h
    injection h with h
    subst h
    rw [blksOf, Nat.mul_zero, List.drop_zero]
    cases hu : unpN (numB (b.take 8)) with
    | none => rfl
    | some x => simp [blksOf]
  | k + 1, b, o, l, h => by
    rw [blksOf] at h
    split at h
    · cases h
    · rename_i s u e
      cases hm : blksOf (b.drop 8) k (o + s) with
      | none => rw [hm] at h; cases h
      | some l' =>
        rw [hm] at h
        injection h with h
        subst h
        have ih := blksOf_snoc hm
        rw [blksOf, e]
        dsimp only
        rw [ih, List.drop_drop, show 8 + 8 * k = 8 * (k + 1) from by omega]
        cases hu : unpN (numB ((b.drop (8 * (k + 1))).take 8)) with
        | none => rfl
        | some x => simp [Nat.add_assoc]
theorem blksOf_none {k : Nat} : ∀ {j : Nat} {b : List UInt8} {o : Nat}, blksOf b k o = none → blksOf b (k + j) o = none := by
  induction k with
  | zero => intro j b o h; rw [blksOf] at h; cases h
  | succ k ih =>
    intro j b o h
    rw [show k + 1 + j = (k + j) + 1 from by omega]
    rw [blksOf] at h ⊢
    split at h
    · rfl
    · rename_i s u e
      cases hm : blksOf (b.drop 8) k (o + s) with
      | none => rw [ih hm]; rfl
      | some l' => rw [hm] at h; cases h
end Go.Proofs.Ytlhahibdddcpfaa
