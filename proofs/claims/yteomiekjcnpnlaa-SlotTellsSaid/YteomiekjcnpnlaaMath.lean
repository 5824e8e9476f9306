/- Plain facts on bytes and the numbers that they spell, the lowest byte first. No program in sight. -/
import Derived.KernelRfl
namespace Go.Proofs.Yteomiekjcnpnlaa

/-- The number of bytes, the lowest first. -/
def numB : List UInt8 → Nat
  | [] => 0
  | x :: xs => x.toNat + 256 * numB xs
/-- A number's n lowest bytes, the lowest first. -/
def lowB : Nat → Nat → List UInt8
  | 0, _ => []
  | n + 1, v => UInt8.ofNat (v % 256) :: lowB n (v / 256)

theorem lowB_length (n v : Nat) : (lowB n v).length = n := by
  induction n generalizing v with
  | zero => rfl
  | succ n ih => simp [lowB, ih]

theorem numB_lt (bs : List UInt8) : numB bs < 256 ^ bs.length := by
  induction bs with
  | nil => simp [numB]
  | cons x xs ih =>
    have := x.toNat_lt
    simp only [numB, List.length_cons, Nat.pow_succ]
    omega

theorem numB_append (a b : List UInt8) : numB (a ++ b) = numB a + 256 ^ a.length * numB b := by
  induction a with
  | nil => simp [numB]
  | cons x xs ih =>
    simp only [List.cons_append, numB, ih, List.length_cons, Nat.pow_succ, Nat.mul_add]
    have : 256 * (256 ^ xs.length * numB b) = 256 ^ xs.length * 256 * numB b := by
      rw [← Nat.mul_assoc, Nat.mul_comm 256 (256 ^ xs.length)]
    omega

theorem toNat_ofNat_mod (v : Nat) : (UInt8.ofNat (v % 256)).toNat = v % 256 := by
  simp [UInt8.toNat_ofNat']

theorem numB_lowB (n v : Nat) : numB (lowB n v) = v % 256 ^ n := by
  induction n generalizing v with
  | zero => simp [lowB, numB, Nat.mod_one]
  | succ n ih =>
    simp only [lowB, numB, ih, toNat_ofNat_mod]
    rw [Nat.pow_succ, Nat.mul_comm (256 ^ n) 256, Nat.mod_mul]

theorem lowB_numB (bs : List UInt8) : lowB bs.length (numB bs) = bs := by
  induction bs with
  | nil => rfl
  | cons x xs ih =>
    have hx := x.toNat_lt
    have h1 : (x.toNat + 256 * numB xs) % 256 = x.toNat := by omega
    have h2 : (x.toNat + 256 * numB xs) / 256 = numB xs := by omega
    simp only [List.length_cons, lowB, numB, h1, h2, ih]
    simp

theorem lowB_snoc (n v : Nat) : lowB (n + 1) v = lowB n v ++ [UInt8.ofNat (v / 256 ^ n % 256)] := by
  induction n generalizing v with
  | zero => simp [lowB]
  | succ n ih =>
    show UInt8.ofNat (v % 256) :: lowB (n + 1) (v / 256) = (UInt8.ofNat (v % 256) :: lowB n (v / 256)) ++ _
    rw [ih, Nat.div_div_eq_div_mul, Nat.pow_succ, Nat.mul_comm 256 (256 ^ n)]
    rfl

theorem lowB_getElem (n v k : Nat) (h : k < n) : (lowB n v)[k]? = some (UInt8.ofNat (v / 256 ^ k % 256)) := by
  induction n generalizing v k with
  | zero => omega
  | succ n ih =>
    cases k with
    | zero => simp [lowB]
    | succ k =>
      simp only [lowB, List.getElem?_cons_succ]
      rw [ih _ _ (by omega), Nat.div_div_eq_div_mul, Nat.pow_succ, Nat.mul_comm 256 (256 ^ k)]

theorem lowB_take (n v k : Nat) (h : k ≤ n) : (lowB n v).take k = lowB k v := by
  induction n generalizing v k with
  | zero =>
    obtain rfl : k = 0 := by omega
    rfl
  | succ n ih =>
    cases k with
    | zero => rfl
    | succ k => simp only [lowB, List.take_succ_cons]; rw [ih _ _ (by omega)]

theorem lowB_drop (n v k : Nat) (h : k ≤ n) : (lowB n v).drop k = lowB (n - k) (v / 256 ^ k) := by
  induction k generalizing n v with
  | zero => simp
  | succ k ih =>
    cases n with
    | zero => omega
    | succ n =>
      simp only [lowB, List.drop_succ_cons]
      rw [ih _ _ (by omega), Nat.div_div_eq_div_mul, Nat.pow_succ, Nat.mul_comm 256 (256 ^ k)]
      congr 1
      omega

theorem numB_take_succ (bs : List UInt8) (k : Nat) (h : k < bs.length) : numB (bs.take (k + 1)) = numB (bs.take k) + 256 ^ k * bs[k].toNat := by
  rw [List.take_succ_eq_append_getElem h, numB_append, List.length_take, Nat.min_eq_left (by omega)]
  simp [numB]

theorem numB_drop (bs : List UInt8) (k : Nat) (h : k < bs.length) : numB (bs.drop k) = bs[k].toNat + 256 * numB (bs.drop (k + 1)) := by
  rw [List.drop_eq_getElem_cons h]
  rfl

theorem or_shift (a x k : Nat) (ha : a < 256 ^ k) : a ||| (x * 256 ^ k) = a + 256 ^ k * x := by
  have e : 256 ^ k = 2 ^ (8 * k) := by rw [Nat.pow_mul]
  rw [e] at ha ⊢
  rw [Nat.or_comm, Nat.mul_comm x, ← Nat.two_pow_add_eq_or_of_lt ha]
  omega

theorem pow256_le (k : Nat) (h : k ≤ 8) : 256 ^ k ≤ 18446744073709551616 :=
  (Nat.pow_le_pow_right (by omega) h : 256 ^ k ≤ 256 ^ 8)

theorem numB_lt64 (bs : List UInt8) (h : bs.length ≤ 8) : numB bs < 18446744073709551616 :=
  Nat.lt_of_lt_of_le (numB_lt bs) (pow256_le _ h)

end Go.Proofs.Yteomiekjcnpnlaa
