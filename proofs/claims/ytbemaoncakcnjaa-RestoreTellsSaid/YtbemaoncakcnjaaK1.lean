/- Texts of mine, joined: Math, TagM, Mem, Args, Append, Segs, Num, Put, Conv, Ar, Place, Zeros, Grow, Store, Help, More, Tail. -/
import Derived.KernelRfl
import Derived.WalkKit
import Derived.Below
import Derived.Laws.OwnMore
import Derived.Laws.BytesArg
import Derived.Deep.Draws
import Derived.Lib.Hide
import Derived.Laws.Rows
import Derived.Deep.OwnRows
import Derived.OpenShut
import Derived.Maps.AppendAt
import Derived.Laws.AppendOwnNone
import Derived.OrdersHeld
import Derived.BigQuiet
import Derived.BigCall
import Derived.Test.YtbemaoncakcnjaaChecked
import Derived.IntWalk
import Derived.Outline
import Derived.Deep.RegionWith
import Derived.Deep.RegionHeld3
import Derived.Lib.AppendZerosOnto
import Derived.Laws.CopyOwn
import Derived.WalkSpells
import Derived.Deep.QuietTactic
import Derived.StillTail

/- Plain facts on bytes and the numbers that they spell, the lowest byte first. No program in sight. -/
namespace Go.Proofs.Ytbemaoncakcnjaa

/-- The number of bytes, the lowest first. -/
def numB : List UInt8 → Nat
  | [] => 0
  | x :: xs => x.toNat + 256 * numB xs
/-- A number's n lowest bytes, the lowest first. -/
def lowB : Nat → Nat → List UInt8
  | 0, _ => []
  | n + 1, v => UInt8.ofNat (v % 256) :: lowB n (v / 256)

theorem lowB_length (n v : Nat) : (lowB n v).length = n := by
  induction n generalizing v with
  | zero => rfl
  | succ n ih => simp [lowB, ih]

theorem numB_lt (bs : List UInt8) : numB bs < 256 ^ bs.length := by
  induction bs with
  | nil => simp [numB]
  | cons x xs ih =>
    have := x.toNat_lt
    simp only [numB, List.length_cons, Nat.pow_succ]
    omega

theorem numB_append (a b : List UInt8) : numB (a ++ b) = numB a + 256 ^ a.length * numB b := by
  induction a with
  | nil => simp [numB]
  | cons x xs ih =>
    simp only [List.cons_append, numB, ih, List.length_cons, Nat.pow_succ, Nat.mul_add]
    have : 256 * (256 ^ xs.length * numB b) = 256 ^ xs.length * 256 * numB b := by
      rw [← Nat.mul_assoc, Nat.mul_comm 256 (256 ^ xs.length)]
    omega

theorem toNat_ofNat_mod (v : Nat) : (UInt8.ofNat (v % 256)).toNat = v % 256 := by
  simp [UInt8.toNat_ofNat']

theorem numB_lowB (n v : Nat) : numB (lowB n v) = v % 256 ^ n := by
  induction n generalizing v with
  | zero => simp [lowB, numB, Nat.mod_one]
  | succ n ih =>
    simp only [lowB, numB, ih, toNat_ofNat_mod]
    rw [Nat.pow_succ, Nat.mul_comm (256 ^ n) 256, Nat.mod_mul]

theorem lowB_numB (bs : List UInt8) : lowB bs.length (numB bs) = bs := by
  induction bs with
  | nil => rfl
  | cons x xs ih =>
    have hx := x.toNat_lt
    have h1 : (x.toNat + 256 * numB xs) % 256 = x.toNat := by omega
    have h2 : (x.toNat + 256 * numB xs) / 256 = numB xs := by omega
    simp only [List.length_cons, lowB, numB, h1, h2, ih]
    simp

theorem lowB_snoc (n v : Nat) : lowB (n + 1) v = lowB n v ++ [UInt8.ofNat (v / 256 ^ n % 256)] := by
  induction n generalizing v with
  | zero => simp [lowB]
  | succ n ih =>
    show UInt8.ofNat (v % 256) :: lowB (n + 1) (v / 256) = (UInt8.ofNat (v % 256) :: lowB n (v / 256)) ++ _
    rw [ih, Nat.div_div_eq_div_mul, Nat.pow_succ, Nat.mul_comm 256 (256 ^ n)]
    rfl

theorem lowB_getElem (n v k : Nat) (h : k < n) : (lowB n v)[k]? = some (UInt8.ofNat (v / 256 ^ k % 256)) := by
  induction n generalizing v k with
  | zero => omega
  | succ n ih =>
    cases k with
    | zero => simp [lowB]
    | succ k =>
      simp only [lowB, List.getElem?_cons_succ]
      rw [ih _ _ (by omega), Nat.div_div_eq_div_mul, Nat.pow_succ, Nat.mul_comm 256 (256 ^ k)]

theorem numB_take_succ (bs : List UInt8) (k : Nat) (h : k < bs.length) : numB (bs.take (k + 1)) = numB (bs.take k) + 256 ^ k * bs[k].toNat := by
  rw [List.take_succ_eq_append_getElem h, numB_append, List.length_take, Nat.min_eq_left (by omega)]
  simp [numB]

theorem numB_drop (bs : List UInt8) (k : Nat) (h : k < bs.length) : numB (bs.drop k) = bs[k].toNat + 256 * numB (bs.drop (k + 1)) := by
  rw [List.drop_eq_getElem_cons h]
  rfl

theorem or_shift (a x k : Nat) (ha : a < 256 ^ k) : a ||| (x * 256 ^ k) = a + 256 ^ k * x := by
  have e : 256 ^ k = 2 ^ (8 * k) := by rw [Nat.pow_mul]
  rw [e] at ha ⊢
  rw [Nat.or_comm, Nat.mul_comm x, ← Nat.two_pow_add_eq_or_of_lt ha]
  omega

theorem pow256_le (k : Nat) (h : k ≤ 8) : 256 ^ k ≤ 18446744073709551616 :=
  (Nat.pow_le_pow_right (by omega) h : 256 ^ k ≤ 256 ^ 8)

theorem numB_lt64 (bs : List UInt8) (h : bs.length ≤ 8) : numB bs < 18446744073709551616 :=
  Nat.lt_of_lt_of_le (numB_lt bs) (pow256_le _ h)

end Go.Proofs.Ytbemaoncakcnjaa

/- Sizes, tags, classes: plain definitions and facts. No program in sight. -/
namespace Go.Proofs.Ytbemaoncakcnjaa

/-- Is it a size? -/
def isSz (n : Int) : Bool := decide (32 ≤ n) && (decide (n ≤ 16384) && n % 16 == 0)
theorem isSz_iff (n : Int) : isSz n = true ↔ 32 ≤ n ∧ n ≤ 16384 ∧ n % 16 = 0 := by simp [isSz]
/-- A tag. -/
def packN (s : Int) (u : Bool) : Nat := if isSz s = true then s.toNat + (if u = true then 1 else 0) else 0
/-- What a number tells as a tag. -/
def unpN (w : Nat) : Option (Nat × Bool) := if w ≤ 20000 ∧ isSz ((w - w % 2 : Nat) : Int) = true then some (w - w % 2, w % 2 == 1) else none
/-- The class of a size; -1: it is none. -/
def classI (s : Int) : Int := if isSz s = false then -1 else if s ≤ 256 then s / 16 - 2 else if s < 512 then 15 else if s < 1024 then 16 else if s < 2048 then 17 else if s < 4096 then 18 else if s < 8192 then 19 else if s < 16384 then 20 else 21

theorem packN_lt (s : Int) (u : Bool) : packN s u ≤ 16385 := by
  unfold packN
  split
  · rename_i h
    rw [isSz_iff] at h
    split <;> omega
  · omega
theorem unpN_some {w s : Nat} {u : Bool} (h : unpN w = some (s, u)) : isSz (s : Int) = true ∧ w = s + (if u = true then 1 else 0) := by
  unfold unpN at h
  split at h
  · rename_i hc
    injection h with h
    injection h with h1 h2
    subst h1 h2
    refine ⟨hc.2, ?_⟩
    rcases Nat.mod_two_eq_zero_or_one w with h | h <;> simp [h]
    omega
  · cases h
theorem unpN_pack {s : Nat} (hs : isSz (s : Int) = true) (u : Bool) : unpN (s + (if u = true then 1 else 0)) = some (s, u) := by
  have h := (isSz_iff _).1 hs
  unfold unpN
  cases u
  · have e2 : (s + 0) % 2 = 0 := by omega
    simp only [Bool.false_eq_true, if_false, e2]
    rw [if_pos ⟨by omega, hs⟩]
    rfl
  · have e2 : (s + 1) % 2 = 1 := by omega
    simp only [if_true, e2]
    rw [if_pos ⟨by omega, hs⟩]
    rfl
theorem unpN_packN {s : Int} (hs : isSz s = true) (u : Bool) : unpN (packN s u) = some (s.toNat, u) := by
  have h := (isSz_iff _).1 hs
  obtain ⟨n, rfl⟩ : ∃ n : Nat, s = (n : Int) := ⟨s.toNat, by omega⟩
  unfold packN
  rw [if_pos hs]
  exact unpN_pack hs u
theorem classI_bounds (s : Int) : -1 ≤ classI s ∧ classI s ≤ 21 := by
  unfold classI
  by_cases h : isSz s = false
  · rw [if_pos h]; omega
  · have h' := (isSz_iff s).1 (by simpa using h)
    rw [if_neg h]
    repeat' split
    all_goals omega
theorem classI_neg (s : Int) : classI s < 0 ↔ isSz s = false := by
  unfold classI
  by_cases h : isSz s = false
  · simp [h]
  · have h' := (isSz_iff s).1 (by simpa using h)
    rw [if_neg h]
    refine ⟨fun hh => ?_, fun hh => absurd hh h⟩
    exfalso
    revert hh
    repeat' split
    all_goals omega
end Go.Proofs.Ytbemaoncakcnjaa

/- Words for a slice of bytes in memory: what it reads as, nil let in, and what keeps it. No program in sight. -/
namespace Go.Proofs.Ytbemaoncakcnjaa
open Go.RowKit

/-- The slice at A of n bytes holds bs, and lies below block B. -/
def Rd (w : World) (B : Nat) (A : Option Addr) (n : Nat) (bs : List UInt8) : Prop :=
  bs.length = n ∧ (0 < n → ∃ b off, A = some ⟨b, off, none⟩ ∧ b < B ∧ ∀ j u, bs[j]? = some u → w.cell? ⟨b, off + j, none⟩ = some (.int .u8 (u.toNat : Int)))

section
variable {w w' : World} {B B' n : Nat} {A : Option Addr} {bs : List UInt8}
theorem Rd.nil_ : Rd w B A 0 [] := ⟨rfl, fun h => absurd h (by omega)⟩
theorem Rd.keep (h : Rd w B A n bs) (hk : ∀ p : Addr, p.block < B → w'.cell? p = w.cell? p) : Rd w' B A n bs :=
  ⟨h.1, fun hn => by
    obtain ⟨b, off, e, hb, hc⟩ := h.2 hn
    exact ⟨b, off, e, hb, fun j u hu => (hk ⟨b, off + j, none⟩ hb).trans (hc j u hu)⟩⟩
theorem Rd.more (h : Rd w B A n bs) (hB : B ≤ B') : Rd w B' A n bs :=
  ⟨h.1, fun hn => by
    obtain ⟨b, off, e, hb, hc⟩ := h.2 hn
    exact ⟨b, off, e, by omega, hc⟩⟩
theorem Rd.below (h : Rd w B A n bs) (hb : Below B w w') : Rd w' B A n bs := h.keep fun _ hp => hb.cell hp
theorem Rd.at_ {k : Nat} (h : Rd w B A n bs) (hk : k < n) :
    ∃ b off, A = some ⟨b, off, none⟩ ∧ b < B ∧ ∃ hl : k < bs.length, w.cell? ⟨b, off + k, none⟩ = some (.int .u8 ((bs[k]'hl).toNat : Int)) := by
  obtain ⟨b, off, e, hb, hc⟩ := h.2 (by omega)
  have hl : k < bs.length := by have := h.1; omega
  exact ⟨b, off, e, hb, hl, hc k _ (List.getElem?_eq_getElem hl)⟩
end

/-- A byte as a cell's value; bytes as a row of cells. -/
def bv (u : UInt8) : Value := .int .u8 (u.toNat : Int)
def rowB (bs : List UInt8) : Array Value := (bs.map bv).toArray

theorem rowB_get (bs : List UInt8) (i : Nat) : (rowB bs)[i]? = (bs[i]?).map bv := by
  simp [rowB]
theorem rowB_size (bs : List UInt8) : (rowB bs).size = bs.length := by simp [rowB]
theorem rowB_set (bs : List UInt8) (i : Nat) (u : UInt8) : (rowB bs).setIfInBounds i (bv u) = rowB (bs.set i u) := by
  simp [rowB, List.map_set]
theorem rowB_zeros (n : Nat) : madeCells #[Value.int .u8 0] n = rowB (List.replicate n 0) := by
  apply Array.ext
  · simp [madeCells, rowB]
  · intro i h1 h2
    simp [madeCells, rowB, bv, Nat.mod_one]

/-- Block g is just the bytes bs, none frozen. -/
def Fill (w : World) (g : Nat) (t : TypeId) (bs : List UInt8) : Prop := w.heap[g]? = some (.cells (rowB bs) t (0, 0))

section
variable {w w' : World} {g : Nat} {t : TypeId} {bs : List UInt8}
theorem Fill.lt (h : Fill w g t bs) : g < w.heap.size := by
  unfold Fill at h
  rcases Nat.lt_or_ge g w.heap.size with h1 | h1
  · exact h1
  · rw [Array.getElem?_eq_none h1] at h; cases h
theorem Fill.cell (h : Fill w g t bs) (i : Nat) : w.cell? ⟨g, i, none⟩ = (bs[i]?).map bv := by
  rw [cell_of_row w g i _ t (0, 0) h, rowB_get]
theorem Fill.thaw (h : Fill w g t bs) (i : Nat) : w.frozen? ⟨g, i, none⟩ = false := by
  unfold Fill at h
  simp [World.frozen?, h]
theorem Fill.made (w : World) (t : TypeId) (bs : List UInt8) : Fill (w.alloc (.cells (rowB bs) t)) w.heap.size t bs := heap_alloc_new w _
theorem Fill.put (h : Fill w g t bs) (i : Nat) (u : UInt8) : Fill (w.setCell ⟨g, i, none⟩ (bv u)) g t (bs.set i u) := by
  unfold Fill at h ⊢
  simp only [World.setCell, Array.getElem?_modify, h]
  simp [rowB_set]
theorem Fill.reads (h : Fill w g t bs) : Rd w w.heap.size (some ⟨g, 0, none⟩) bs.length bs :=
  ⟨rfl, fun _ => ⟨g, 0, rfl, h.lt, fun j u hu => by rw [Nat.zero_add, h.cell, hu]; rfl⟩⟩
end

end Go.Proofs.Ytbemaoncakcnjaa

/- Arguments as the laws' frames hand them over, in the words of the contracts. -/
namespace Go.Proofs.Ytbemaoncakcnjaa
open Go.RowKit

theorem cell_lt {w : World} {a : Addr} {v : Value} (h : w.cell? a = some v) : a.block < w.heap.size := by
  rcases Nat.lt_or_ge a.block w.heap.size with h1 | h1
  · exact h1
  · unfold World.cell? at h
    rw [Array.getElem?_eq_none h1] at h
    simp at h

/-- A slice of bytes that came in reads as a list of bytes. -/
theorem rd_of_row {w : World} {a : Option Addr} {len cap : Nat} {zs : List Int}
    (h : (a = none ∧ len = 0 ∧ cap = 0 ∧ zs = []) ∨
      ∃ x, a = some x ∧ len ≤ cap ∧ cap ≤ maxLen ∧ zs.length = cap ∧ (∀ i, i < zs.length → w.cell? (x.add i) = some (.int .u8 (zs.getD i 0))) ∧ ∀ n ∈ zs, (Lit.int .u8 n).wf = true) :
    ∃ bs : List UInt8, Rd w w.heap.size a len bs ∧ len ≤ cap ∧ cap ≤ maxLen ∧ (a = none → cap = 0) := by
  rcases h with ⟨rfl, rfl, rfl, rfl⟩ | ⟨x, rfl, hl, hm, hz, hc, hwf⟩
  · exact ⟨[], Rd.nil_, Nat.le_refl _, Nat.zero_le _, fun _ => rfl⟩
  · refine ⟨(zs.take len).map fun n => UInt8.ofNat n.toNat, ⟨by simp; omega, fun hn => ?_⟩, hl, hm, fun h => by cases h⟩
    have h0 := hc 0 (by omega)
    obtain ⟨b, off, spot⟩ := x
    obtain rfl : spot = none := by simpa [Addr.add] using World.cell?_spot h0
    refine ⟨b, off, rfl, ?_, fun j u hu => ?_⟩
    · have := cell_lt h0
      simpa [Addr.add] using this
    · rw [List.getElem?_map, Option.map_eq_some_iff] at hu
      obtain ⟨n, hn1, rfl⟩ := hu
      have hj : j < len := by
        rcases Nat.lt_or_ge j len with h1 | h1
        · exact h1
        · rw [List.getElem?_eq_none (by rw [List.length_take]; omega)] at hn1; cases hn1
      rw [List.getElem?_take_of_lt hj] at hn1
      have hg := hc j (by omega)
      have e : (⟨b, off, none⟩ : Addr).add j = ⟨b, off + j, none⟩ := by unfold Addr.add; split <;> simp_all
      rw [e] at hg
      rw [hg, List.getD, hn1]
      have hb := bounds_u8 (hwf n (List.mem_of_getElem? hn1))
      have h1 : (UInt8.ofNat n.toNat).toNat = n.toNat := by rw [UInt8.toNat_ofNat']; omega
      simp only [Option.getD_some, h1]
      congr 2
      omega

end Go.Proofs.Ytbemaoncakcnjaa

/- append(own, src...) for bytes, the source nil, empty or not; a row of the call's own as bytes. No program in sight. -/
namespace Go.Proofs.Ytbemaoncakcnjaa
open Go.RowKit

theorem rd_cells {w : World} {B m : Nat} {ad : Addr} {cs : List UInt8} (h : Rd w B (some ad) m cs) : ∀ j u, (cs.map bv)[j]? = some u → w.cell? (ad.add j) = some u := by
  intro j u hu
  rw [List.getElem?_map, Option.map_eq_some_iff] at hu
  obtain ⟨x, hx, rfl⟩ := hu
  have hj : j < cs.length := by
    rcases Nat.lt_or_ge j cs.length with h1 | h1
    · exact h1
    · rw [List.getElem?_eq_none h1] at hx; cases hx
  obtain ⟨b, off, e, _, hc⟩ := h.2 (by have := h.1; omega)
  cases e
  have e : (⟨b, off, none⟩ : Addr).add j = ⟨b, off + j, none⟩ := by unfold Addr.add; split <;> simp_all
  rw [e]
  exact hc j x hx

theorem bv_one (bs : List UInt8) : ∀ u ∈ bs.map bv, u.oneCell' = true := by
  intro u hu
  obtain ⟨x, _, rfl⟩ := List.mem_map.1 hu
  rfl

section
variable {P : Program} {w : World} {ops : Array Oper} {rest : List Oper} {o : Oper} {a : Act} {Q : Exit → Act → World → Prop}
theorem append_bytes (hgd : o.guard = none) (s x : Operand) (t e : TypeId) (ho : o.op = .call { callee := .builtin .append, args := #[s, x], argTypes := #[t, t] })
    (ht : P.underlying t = some (.slice e)) (hinfo : (P.info? e).map (fun i => (i.zero, i.size, i.bytes)) = some (some (.int .u8 0), 1, 1))
    (base : Nat) (v : Value) (n : Nat) (bs : List UInt8) (hs : a.eval s = v) (hown : w.ownsRow base e 1 v n (bs.map bv))
    (B : Nat) (A : Option Addr) (m c : Nat) (cs : List UInt8) (hx : a.eval x = .slice A m c) (hr : Rd w B A m cs) (hA : A = none → c = 0)
    (hb : n + m ≤ 140737488355328) (hbase : base ≤ w.heap.size)
    (h : ∀ v' w', w'.ownsRow base e 1 v' (n + m) ((bs ++ cs).map bv) → Below base w w' → w.grownBy w' v.ownBlock → wpList P ops Q rest (a.put o.dst v') w') : wpList P ops Q (o :: rest) a w := by
  obtain ⟨i0, hi, hz0, hz1, hz2⟩ := info_parts hinfo
  rcases A with _ | ad
  · obtain rfl := hA rfl
    have hm : m = 0 := by
      rcases Nat.eq_zero_or_pos m with h0 | h0
      · exact h0
      · obtain ⟨_, _, e1, _⟩ := hr.2 h0
        cases e1
    subst hm
    obtain rfl : cs = [] := List.eq_nil_of_length_eq_zero hr.1
    refine wpList_append_own_none hgd s x t ho base e i0 1 ht hi v n _ hs hown hx ?_
    exact h v w (by simpa using hown) (Below.refl _ _) (World.grownBy.refl w _)
  · refine wpList_append_own w hgd s x t ho base e i0 (.int .u8 0) 1 1 ht hi hz0 hz1 hz2 rfl (by decide) v n _ hs hown ad m c (cs.map bv) hx (by simp [hr.1]) (rd_cells hr) (bv_one cs) (by unfold maxLen; omega) (by omega) hbase ?_
    intro v' w' h1 h2 _
    exact h v' w' (by simpa using h1) ((Below.refl _ _).grown h2 hbase (fun k hk => (hown.lt k hk).1)) h2

theorem own_below {w' : World} {base n : Nat} {e : TypeId} {v : Value} {xs : List Value} (h : w.ownsRow base e 1 v n xs) (hb : Below w.heap.size w w') : w'.ownsRow base e 1 v n xs := by
  refine ⟨h.1, ?_⟩
  rcases h.2 with h2 | ⟨g, cap, cur, hv, hg, hh, r⟩
  · exact .inl h2
  · refine .inr ⟨g, cap, cur, hv, hg, ?_, r⟩
    have := (h.lt g (by rw [hv]; rfl)).2
    rw [hb.block g this]; exact hh

/-- A row of the call's own that has something in it, as bytes. -/
theorem own_rd {base n : Nat} {e : TypeId} {v : Value} {bs : List UInt8} (h : w.ownsRow base e 1 v n (bs.map bv)) (hn : 0 < n) :
    ∃ g cap, v = .slice (some ⟨g, 0, none⟩) n cap ∧ n ≤ cap ∧ Rd w w.heap.size (some ⟨g, 0, none⟩) n bs := by
  have hlen : bs.length = n := by have := h.1; simpa using this
  rcases h.2 with ⟨_, h0⟩ | ⟨g, cap, cur, rfl, hg, hh, hnc, _, _, hcur⟩
  · omega
  · refine ⟨g, cap, rfl, hnc, hlen, fun _ => ⟨g, 0, rfl, (h.lt g rfl).2, fun j u hu => ?_⟩⟩
    have hj : j < n := by
      rcases Nat.lt_or_ge j n with h1 | h1
      · exact h1
      · rw [List.getElem?_eq_none (by omega)] at hu; cases hu
    rw [Nat.zero_add, h.cellAt j (by omega), List.getElem?_map, hu]
    rfl

/-- The same, something in it or not. -/
theorem own_any {base n : Nat} {e : TypeId} {v : Value} {bs : List UInt8} (h : w.ownsRow base e 1 v n (bs.map bv)) :
    ∃ A cap, v = .slice A n cap ∧ n ≤ cap ∧ Rd w w.heap.size A n bs := by
  have hlen : bs.length = n := by have := h.1; simpa using this
  rcases Nat.eq_zero_or_pos n with h0 | h0
  · subst h0
    obtain rfl : bs = [] := List.eq_nil_of_length_eq_zero hlen
    rcases h.2 with ⟨rfl, _⟩ | ⟨g, cap, cur, rfl, _⟩
    · exact ⟨none, 0, rfl, Nat.le_refl _, Rd.nil_⟩
    · exact ⟨_, cap, rfl, Nat.zero_le _, Rd.nil_⟩
  · obtain ⟨g, cap, hv, hc, hr⟩ := own_rd h h0
    exact ⟨_, cap, hv, hc, hr⟩

end

end Go.Proofs.Ytbemaoncakcnjaa

/- A region that draws its order, whose operations only read but for calls that wait for one another and change nothing that was there: one walk of one order serves every order. No program in sight. -/
namespace Go.Proofs.Ytbemaoncakcnjaa
open Go.RowKit

/-- w' is w with more blocks: nothing that was there has changed. -/
def Ext (w w' : World) : Prop := Below w.heap.size w w'
theorem Ext.refl (w : World) : Ext w w := Below.refl _ _
/-- The worlds from w on. -/
def Later (w : World) : Type := { w' : World // Ext w w' }
instance (w : World) : Nonempty (Later w) := ⟨⟨w, Ext.refl w⟩⟩

/-- Operations that yield a value and enter nothing. -/
def isRead : Op → Bool
  | .move _ => true
  | .assign _ => true
  | .pick _ _ _ => true
  | .load _ _ => true
  | .binOp _ _ _ _ _ => true
  | .unOp _ _ _ => true
  | .convert _ _ _ => true
  | .slice _ _ _ _ _ => true
  | .fieldAddr _ _ _ => true
  | .field _ _ _ => true
  | .indexAddr _ _ _ => true
  | .index _ _ _ => true
  | .extract _ _ => true
  | _ => false

theorem run_value {P : Program} {w w' : World} {s : Sem Value} {n : Next} (h : (do pure (Next.value (← s)) : Sem Next).run P w = .ok n w') : ∃ v, n = .value v := by
  rw [Sem.run_bind] at h
  generalize s.run P w = r at h
  cases r with
  | ok v w1 =>
    simp only [Result.andThen, Sem.run_pure] at h
    injection h with h1 h2
    exact ⟨v, h1.symm⟩
  | halt x w1 => simp [Result.andThen] at h

theorem read_value {P : Program} {ρ : Operand → Value} {o : Oper} {w w' : World} {n : Next} (hr : isRead o.op = true) (h : (execOp ρ o).run P w = .ok n w') : ∃ v, n = .value v := by
  unfold execOp at h
  cases ho : o.op <;> simp only [ho, isRead, Bool.false_eq_true] at hr <;> simp only [ho] at h
  all_goals first
    | exact run_value h
    | (simp only [Sem.run_pure] at h; injection h with h1 h2; exact ⟨_, h1.symm⟩)
    | (rw [Sem.run_bind] at h
       generalize Sem.run P (asBool _) w = r at h
       cases r with
       | ok v w1 => simp only [Result.andThen, Sem.run_pure] at h; injection h with h1 h2; exact ⟨_, h1.symm⟩
       | halt x w1 => simp [Result.andThen] at h)

/-- The operations of these numbers, in this order. -/
def pick (ops : Array Oper) : List Nat → List Oper
  | [] => []
  | i :: r => match ops[i]? with
    | some o => o :: pick ops r
    | none => pick ops r

def mark (l : Array Bool) : List Nat → Array Bool
  | [] => l
  | i :: r => mark (l.setIfInBounds i true) r

section
variable {P : Program} {ops : Array Oper} {Q : Exit → Act → World → Prop}

end

end Go.Proofs.Ytbemaoncakcnjaa

/- The contracts of the functions that tell a number out of bytes. -/
namespace Go.Proofs.Ytbemaoncakcnjaa
open Go.RowKit

theorem ret_u64 {a b : Nat} (h : a = b) : Ending.returned (.int .u64 (a : Int)) = .returned (.int .u64 (b : Int)) := by rw [h]

theorem wrap_u64_id (n : Nat) (h : n < 18446744073709551616) : IntKind.u64.wrap (n : Int) = (n : Int) := by
  rw [IntKind.wrap_u64]; omega

theorem number_step (bs : List UInt8) (k : Nat) (hl : k < bs.length) (h8 : k < 8) :
    bits BinOp.or IntKind.u64 (↑(numB (bs.take k))) (IntKind.u64.wrap (IntKind.u64.wrap ↑bs[k].toNat * 2 ^ (8 * k))) = ((numB (bs.take (k + 1)) : Nat) : Int) := by
  have hx := bs[k].toNat_lt
  have hlen : (bs.take k).length = k := by rw [List.length_take]; omega
  have ha := numB_lt (bs.take k)
  rw [hlen] at ha
  have hk8 := pow256_le k (by omega)
  have hs := numB_lt64 (bs.take (k + 1)) (by rw [List.length_take]; omega)
  rw [numB_take_succ bs k hl] at hs
  have e : (2 : Int) ^ (8 * k) = ((256 ^ k : Nat) : Int) := by
    rw [Int.pow_mul]; simp
  rw [wrap_u64_id _ (by omega), e, ← Int.natCast_mul, wrap_u64_id _ (by rw [Nat.mul_comm]; omega), bits_or_u64_nat _ _ (by omega) (by rw [Nat.mul_comm]; omega), or_shift _ _ _ ha, numB_take_succ bs k hl]

set_option maxRecDepth 100000 in
set_option maxHeartbeats 400000 in
theorem number_any (A : Option Addr) (n c B : Nat) (bs : List UInt8) (w : World) (h : Rd w B A n bs) (hn : n ≤ 8) :
    Calls Try.prog 100 #[.slice A n c] w fun e w' => e = .returned (.int .u64 (numB bs : Int)) ∧ w = w' := by
  go_enter Try.func100, Try.ntmps100
  go_wp2
  go_loop [3, 8] (fun v i => ∃ k : Nat, k ≤ n ∧ i = .int .i64 k ∧ v = .int .u64 (numB (bs.take k) : Int)) (fun _ i => n - (intOf i).toNat)
  case atStart => exact ⟨0, Nat.zero_le _, rfl, rfl⟩
  case round =>
    obtain ⟨k, hk, rfl, rfl⟩ := hrel
    by_cases hlt : k < n
    · obtain ⟨b, off, rfl, hb, hl, hc⟩ := h.at_ hlt
      go_wp2
      go_round
      case rel => exact ⟨k + 1, by omega, by go_num, by rw [number_step bs k hl (by omega)]⟩
      case measure => simp [intOf]; omega
    · go_wp2
      go_ret
      exact ⟨ret_u64 (by rw [List.take_of_length_le (by have := h.1; omega)]), rfl⟩

theorem num_step (bs : List UInt8) (k : Nat) (hl : k < bs.length) (h8 : bs.length ≤ 8) :
    IntKind.u64.wrap (IntKind.u64.wrap (256 * ((numB (bs.drop (k + 1)) : Nat) : Int)) + IntKind.u64.wrap ↑bs[k].toNat) = ((numB (bs.drop k) : Nat) : Int) := by
  have hx := bs[k].toNat_lt
  have hs := numB_lt64 (bs.drop k) (by rw [List.length_drop]; omega)
  rw [numB_drop bs k hl] at hs ⊢
  have e : (256 * ((numB (bs.drop (k + 1)) : Nat) : Int)) = ((256 * numB (bs.drop (k + 1)) : Nat) : Int) := by simp
  rw [e, wrap_u64_id _ (by omega), wrap_u64_id _ (by omega), ← Int.natCast_add, wrap_u64_id _ (by omega)]
  omega

set_option maxRecDepth 100000 in
set_option maxHeartbeats 400000 in
theorem refNum_any (A : Option Addr) (n c B : Nat) (bs : List UInt8) (w : World) (h : Rd w B A n bs) (hn : n ≤ 8) :
    Calls Try.prog 103 #[.slice A n c] w fun e w' => e = .returned (.int .u64 (numB bs : Int)) ∧ w = w' := by
  go_enter Try.func103, Try.ntmps103
  go_wp2
  go_loop [3, 4] (fun v i => ∃ k : Nat, k ≤ n ∧ i = .int .i64 ((k : Int) - 1) ∧ v = .int .u64 (numB (bs.drop k) : Int)) (fun _ i => (intOf i + 1).toNat)
  case atStart => exact ⟨n, Nat.le_refl _, rfl, by rw [List.drop_eq_nil_of_le (by have := h.1; omega)]; rfl⟩
  case round =>
    obtain ⟨k, hk, rfl, rfl⟩ := hrel
    rcases k with _ | k
    · go_wp2
      go_ret
      exact ⟨rfl, rfl⟩
    · obtain ⟨b, off, rfl, hb, hl, hc⟩ := h.at_ (k := k) (by omega)
      have h8 : bs.length ≤ 8 := by have := h.1; omega
      have e1 : ((k + 1 : Nat) : Int) - 1 = (k : Int) := by omega
      rw [e1]
      clear e1
      go_wp2
      go_round
      case rel => exact ⟨k, by omega, by go_num, by rw [num_step bs k hl h8]⟩
      case measure => simp [intOf]

theorem ret_bool {a b : Bool} (h : a = b) : Ending.returned (.bool a) = .returned (.bool b) := by rw [h]

set_option maxRecDepth 100000 in
set_option maxHeartbeats 400000 in
theorem has_yes (A : Option Addr) (len c : Nat) (p n : Nat) (w : World) (hl : len ≤ 1000000) (h2 : p + n ≤ len) :
    Calls Try.prog 99 #[.slice A len c, .int .u64 (p : Int), .int .u64 (n : Int)] w fun e w' => e = .returned (.bool true) ∧ w = w' := by
  have h3 : n ≤ len := by omega
  go_enter Try.func99, Try.ntmps99
  go_wp2
  go_ret
  exact ⟨ret_bool (decide_eq_true (by omega)), rfl⟩

theorem Rd.sub {w : World} {B b off n : Nat} {bs : List UInt8} (h : Rd w B (some ⟨b, off, none⟩) n bs) (k m : Nat) (hm : k + m ≤ n) :
    Rd w B (some ⟨b, off + k, none⟩) m ((bs.drop k).take m) := by
  refine ⟨by rw [List.length_take, List.length_drop, h.1]; omega, fun hn => ?_⟩
  obtain ⟨b', off', e, hb, hc⟩ := h.2 (by omega)
  cases e
  refine ⟨b, off + k, rfl, hb, fun j u hu => ?_⟩
  have hj : j < m := by
    rcases Nat.lt_or_ge j m with h1 | h1
    · exact h1
    · rw [List.getElem?_eq_none (by rw [List.length_take]; omega)] at hu
      cases hu
  rw [Nat.add_assoc]
  refine hc _ u ?_
  rw [List.getElem?_take_of_lt hj, List.getElem?_drop] at hu
  exact hu

set_option maxRecDepth 100000 in
set_option maxHeartbeats 400000 in
theorem get_yes (A : Option Addr) (len c B : Nat) (bs : List UInt8) (p : Nat) (w : World) (h : Rd w B A len bs) (hlc : len ≤ c) (hl : len ≤ 1000000) (h2 : p + 8 ≤ len) :
    Calls Try.prog 94 #[.slice A len c, .int .u64 (p : Int)] w fun e w' => e = .returned (.tuple #[.int .u64 (numB ((bs.drop p).take 8) : Int), .bool true]) ∧ w = w' := by
  obtain ⟨b, off, rfl, hb, _, _⟩ := h.at_ (k := 0) (by omega)
  have hs := h.sub p 8 h2
  go_enter Try.func94, Try.ntmps94
  go_wp2_with fail
  refine (has_yes _ _ _ _ 8 _ hl h2).mono ?_
  rintro e w' ⟨rfl, rfl⟩
  go_wp2_with fail
  refine (number_any _ _ _ _ _ _ hs (by omega)).mono ?_
  rintro e w' ⟨rfl, rfl⟩
  go_wp2
  go_ret2
  exact ⟨rfl, rfl⟩

end Go.Proofs.Ytbemaoncakcnjaa

/- The contracts of the functions that tell a number's bytes. -/
namespace Go.Proofs.Ytbemaoncakcnjaa
open Go.RowKit

theorem u8_info : (Try.prog.info? 5).map (fun i => (i.zero, i.size, i.bytes)) = some (some (.int .u8 0), 1, 1) := by kernel_rfl

def lowest_at (k n v : Nat) : List UInt8 := lowB k v ++ List.replicate (n - k) 0

theorem lowest_at_get (k n v : Nat) (h : k < n) : (lowest_at k n v)[k]? = some 0 := by
  rw [lowest_at, List.getElem?_append_right (by rw [lowB_length]; omega), lowB_length, Nat.sub_self, List.getElem?_replicate, if_pos (by omega)]
theorem lowest_at_set (k n v : Nat) (h : k < n) : (lowest_at k n v).set k (UInt8.ofNat (v / 256 ^ k % 256)) = lowest_at (k + 1) n v := by
  unfold lowest_at
  rw [lowB_snoc, List.set_append_right _ _ (by rw [lowB_length]; omega), lowB_length, Nat.sub_self, List.append_assoc]
  obtain ⟨m, hm⟩ : ∃ m, n - k = m + 1 := ⟨n - k - 1, by omega⟩
  have hm' : n - (k + 1) = m := by omega
  rw [hm, hm', List.replicate_succ]
  rfl

theorem bv_low (v k : Nat) : Value.int .u8 ((v : Int) / 2 ^ (8 * k) % 256) = bv (UInt8.ofNat (v / 256 ^ k % 256)) := by
  have e : (2 : Int) ^ (8 * k) = ((256 ^ k : Nat) : Int) := by rw [Int.pow_mul]; simp
  rw [bv, toNat_ofNat_mod, e]
  simp

set_option maxRecDepth 100000 in
set_option maxHeartbeats 400000 in
theorem lowest_any (v n : Nat) (w : World) (hn : n ≤ 8) (_hv : v < 18446744073709551616) :
    Calls Try.prog 97 #[.int .u64 (v : Int), .int .i64 (n : Int)] w fun e w' => e = .returned (.slice (some ⟨w.heap.size, 0, none⟩) n n) ∧ Fill w' w.heap.size 5 (lowB n v) ∧ Below w.heap.size w w' := by
  have hmk := fun W => run_make_row' (P := Try.prog) 44 5 (.int .u8 0) 1 Try.underlying44 u8_info rfl .i64 .i64 n (by omega) (by omega) W
  go_enter Try.func97, Try.ntmps97
  go_wp2
  rw [rowB_zeros]
  have hst : Fill (w.alloc (.cells (rowB (List.replicate n 0)) 5)) w.heap.size 5 (lowest_at 0 n v) := Fill.made w 5 _
  have hbl : Below w.heap.size w (w.alloc (.cells (rowB (List.replicate n 0)) 5)) := (Below.refl _ _).alloc (Nat.le_refl _) _
  clear hmk
  generalize w.alloc (.cells (rowB (List.replicate n 0)) 5) = w0 at *
  go_loopw [11] (fun i wr => ∃ k : Nat, k ≤ n ∧ i = .int .i64 k ∧ Fill wr w.heap.size 5 (lowest_at k n v) ∧ Below w.heap.size w wr) (fun i _ => n - (intOf i).toNat)
  case atStart => exact ⟨0, Nat.zero_le _, rfl, hst, hbl⟩
  case round =>
    obtain ⟨k, hk, rfl, hf, hb⟩ := hrel
    by_cases hlt : k < n
    · have hc : wr.cell? ⟨w.heap.size, k, none⟩ = some (.int .u8 0) := by rw [hf.cell, lowest_at_get k n v hlt]; rfl
      have hz := hf.thaw k
      have hput := hf.put k (UInt8.ofNat (v / 256 ^ k % 256))
      rw [lowest_at_set k n v hlt] at hput
      go_wp2
      go_roundw
      case rel => rw [bv_low]; exact ⟨k + 1, by omega, by go_num, hput, hb.setCell (Nat.le_refl _) _⟩
      case measure => simp [intOf]; omega
    · go_wp2
      go_ret
      obtain rfl : k = n := by omega
      exact ⟨rfl, by simpa [lowest_at] using hf, hb⟩

set_option maxRecDepth 100000 in
set_option maxHeartbeats 400000 in
theorem put_any (v : Nat) (w : World) (hv : v < 18446744073709551616) :
    Calls Try.prog 89 #[.int .u64 (v : Int)] w fun e w' => e = .returned (.slice (some ⟨w.heap.size, 0, none⟩) 8 8) ∧ Fill w' w.heap.size 5 (lowB 8 v) ∧ Below w.heap.size w w' := by
  go_enter Try.func89, Try.ntmps89
  go_wp2_with fail
  refine (lowest_any v 8 _ (by omega) hv).mono ?_
  rintro e w' ⟨rfl, hf, hb⟩
  go_wp2
  go_ret
  exact ⟨rfl, hf, hb⟩


end Go.Proofs.Ytbemaoncakcnjaa

/- Bytes as a string. -/
namespace Go.Proofs.Ytbemaoncakcnjaa
open Go.RowKit

/-- Bytes as a string. -/
def strB (bs : List UInt8) : ByteArray := ⟨bs.toArray⟩

theorem strOfNums_bytes (bs : List UInt8) : strOfNums (bs.map fun u => (u.toNat : Int)) = strB bs := by
  unfold strOfNums strB
  rw [List.map_map]
  congr 2
  conv => rhs; rw [← List.map_id bs]
  exact List.map_congr_left fun u _ => by simp

theorem conv_rd {w : World} {B n c : Nat} {A : Option Addr} {bs : List UInt8} (h : Rd w B A n bs) : (convert 44 9 (.slice A n c)).run Try.prog w = .ok (.string (strB bs)) w := by
  rcases Nat.eq_zero_or_pos n with h0 | h0
  · subst h0
    obtain rfl : bs = [] := List.eq_nil_of_length_eq_zero h.1
    rcases A with _ | ⟨b, off, sp⟩
    · exact run_convert_bytes_nil w 44 5 Try.underlying44 Try.underlying5 0 c 9 Try.underlying9
    · rw [run_convert_bytes_string w 44 9 5 _ 0 c Try.underlying44 Try.underlying5 Try.underlying9, run_bytesToString w _ 0 c [] (run_loadCells_list (P := Try.prog) w _ [] (by simp))]
      rfl
  · obtain ⟨b, off, rfl, _, hc⟩ := h.2 h0
    rw [← strOfNums_bytes]
    refine run_convert_bytes_arg w 44 5 Try.underlying44 Try.underlying5 b off n c _ (by rw [List.length_map]; exact h.1) (fun i hi => ?_) 9 Try.underlying9
    have hl : i < bs.length := by have := h.1; omega
    rw [hc i bs[i] (List.getElem?_eq_getElem hl)]
    simp [List.getD, List.getElem?_eq_getElem hl]

theorem Rd.alloc {w : World} {B n : Nat} {A : Option Addr} {bs : List UInt8} (h : Rd w B A n bs) (hB : B ≤ w.heap.size) (o : Obj) : Rd (w.alloc o) B A n bs :=
  h.keep fun p hp => World.cell?_alloc_lt w o p (by omega)


end Go.Proofs.Ytbemaoncakcnjaa

/- Words for an arena in memory: a block of three cells, and the row of bytes that its third cell tells. No program in sight. -/
namespace Go.Proofs.Ytbemaoncakcnjaa
open Go.RowKit

/-- Of what was there only blocks of S have changed. -/
structure Tch (S : Nat → Prop) (w w' : World) : Prop where
  os : w'.os = w.os
  tape : w'.tape = w.tape
  output : w'.output = w.output
  size : w.heap.size ≤ w'.heap.size
  block : ∀ k, k < w.heap.size → ¬ S k → w'.heap[k]? = w.heap[k]?

section
variable {S S' : Nat → Prop} {w w1 w2 w' : World} {B : Nat}
theorem Tch.refl (S : Nat → Prop) (w : World) : Tch S w w := ⟨rfl, rfl, rfl, Nat.le_refl _, fun _ _ _ => rfl⟩
theorem Tch.trans (h : Tch S w w1) (k : Tch S' w1 w2) (hS : ∀ i, i < w.heap.size → S' i → S i) : Tch S w w2 :=
  ⟨k.os.trans h.os, k.tape.trans h.tape, k.output.trans h.output, Nat.le_trans h.size k.size, fun i hi hn =>
    (k.block i (Nat.lt_of_lt_of_le hi h.size) (fun h' => hn (hS i hi h'))).trans (h.block i hi hn)⟩
theorem Tch.of_below (h : Below w.heap.size w w') : Tch S w w' := ⟨h.os, h.tape, h.output, h.size, fun k hk _ => h.block k hk⟩
theorem Tch.below (h : Tch S w w') (hS : ∀ k, S k → B ≤ k) (hB : B ≤ w.heap.size) : Below B w w' :=
  ⟨h.os, h.tape, h.output, h.size, fun k hk => h.block k (by omega) (fun hs => by have := hS k hs; omega)⟩
theorem Tch.drew (h : Tch S w w') : Tch S w w'.drew := ⟨h.os, h.tape, h.output, h.size, h.block⟩
theorem Tch.set (w : World) (a : Addr) (u : Value) (hS : S a.block) : Tch S w (w.setCell a u) :=
  ⟨rfl, rfl, rfl, by simp [World.setCell], fun k _ hn => Below.heap_setCell w a u k (fun e => hn (e ▸ hS))⟩
theorem Tch.grown {row : Option Nat} (h : w.grownBy w' row) (hS : ∀ k, row = some k → S k) : Tch S w w' :=
  ⟨h.os, h.tape, h.output, h.size, fun k hk hn => h.block k hk (fun e => hn (hS k e.symm))⟩
end

/-- The blocks of an arena: its own, and its bytes'. -/
def foot (g : Nat) (A : Option Addr) (k : Nat) : Prop := k = g ∨ ∃ a, A = some a ∧ k = a.block

/-- At block g lies an arena (of type t) with this base and capacity, and these bytes. -/
structure Ar (w : World) (t : TypeId) (g base cap : Nat) (A : Option Addr) (c : Nat) (bs : List UInt8) : Prop where
  obj : w.heap[g]? = some (.cells #[.int .u64 (base : Int), .int .i64 (cap : Int), .slice A bs.length c] t (0, 0))
  own : w.ownsRow 0 5 1 (.slice A bs.length c) bs.length (bs.map bv)

section
variable {w w' : World} {t : TypeId} {g base cap c : Nat} {A : Option Addr} {bs : List UInt8}
theorem heap_lt {o : Obj} (h : w.heap[g]? = some o) : g < w.heap.size := by
  rcases Nat.lt_or_ge g w.heap.size with h1 | h1
  · exact h1
  · rw [Array.getElem?_eq_none h1] at h; cases h
theorem Ar.lt (h : Ar w t g base cap A c bs) : g < w.heap.size := heap_lt h.obj
theorem Ar.c0 (h : Ar w t g base cap A c bs) : w.cell? ⟨g, 0, none⟩ = some (.int .u64 (base : Int)) := by rw [cell_of_row w g 0 _ t (0, 0) h.obj]; rfl
theorem Ar.c1 (h : Ar w t g base cap A c bs) : w.cell? ⟨g, 1, none⟩ = some (.int .i64 (cap : Int)) := by rw [cell_of_row w g 1 _ t (0, 0) h.obj]; rfl
theorem Ar.c2 (h : Ar w t g base cap A c bs) : w.cell? ⟨g, 2, none⟩ = some (.slice A bs.length c) := by rw [cell_of_row w g 2 _ t (0, 0) h.obj]; rfl
theorem Ar.thaw (h : Ar w t g base cap A c bs) (i : Nat) : w.frozen? ⟨g, i, none⟩ = false := frozen_of_row w g i _ t h.obj
theorem Ar.drew (h : Ar w t g base cap A c bs) : Ar w.drew t g base cap A c bs := ⟨h.obj, h.own⟩
theorem Ar.drewN (h : Ar w t g base cap A c bs) (k : Nat) : Ar (w.drewN k) t g base cap A c bs := ⟨h.obj, h.own⟩
theorem Ar.alt (h : Ar w t g base cap A c bs) {a : Addr} (e : A = some a) : a.block < w.heap.size := by subst e; exact (h.own.lt a.block rfl).2
/-- The bytes' row, where there is one. -/
theorem Ar.row (h : Ar w t g base cap A c bs) {a : Addr} (e : A = some a) : ∃ h', a = ⟨h', 0, none⟩ ∧ ∃ cur : Array Value, w.heap[h']? = some (.cells cur 5 (0, 0)) ∧ bs.length ≤ c ∧ c ≤ maxLen ∧ cur.size = c ∧ cur.toList.take bs.length = bs.map bv := by
  subst e
  rcases h.own.2 with ⟨h', _⟩ | ⟨g', cap', cur, h', _, hg, h1, h2, h3, h4⟩
  · cases h'
  · injection h' with e1 e2 e3
    injection e1 with e1
    subst e1 e3
    exact ⟨g', rfl, cur, hg, h1, h2, by simpa using h3, by simpa using h4⟩
theorem Ar.none_ (h : Ar w t g base cap none c bs) : bs = [] ∧ c = 0 := by
  rcases h.own.2 with ⟨h', h0⟩ | ⟨g', cap', cur, h', _⟩
  · injection h' with _ _ e
    exact ⟨List.eq_nil_of_length_eq_zero h0, e⟩
  · injection h' with e; cases e
theorem Ar.le (h : Ar w t g base cap A c bs) : bs.length ≤ c := by
  rcases A with _ | a
  · obtain ⟨rfl, rfl⟩ := h.none_; simp
  · obtain ⟨_, _, _, _, h1, _⟩ := h.row rfl; exact h1
theorem Ar.reads (h : Ar w t g base cap A c bs) : Rd w w.heap.size A bs.length bs := by
  obtain ⟨A', c', e, _, hr⟩ := own_any h.own
  injection e with e1
  subst e1
  exact hr
theorem Ar.keep (h : Ar w t g base cap A c bs) (hk : ∀ k, foot g A k → w'.heap[k]? = w.heap[k]?) : Ar w' t g base cap A c bs := by
  refine ⟨(hk g (.inl rfl)).trans h.obj, h.own.1, ?_⟩
  rcases h.own.2 with h2 | ⟨g', cap', cur, hv, hg, hh, r⟩
  · exact .inl h2
  · refine .inr ⟨g', cap', cur, hv, hg, ?_, r⟩
    injection hv with e
    exact (hk g' (.inr ⟨_, e, rfl⟩)).trans hh
theorem Ar.foot_lt (h : Ar w t g base cap A c bs) {k : Nat} (hk : foot g A k) : k < w.heap.size := by
  rcases hk with rfl | ⟨a, e, rfl⟩
  · exact h.lt
  · exact h.alt e
theorem Ar.below (h : Ar w t g base cap A c bs) (hb : Below w.heap.size w w') : Ar w' t g base cap A c bs :=
  h.keep fun k hk => hb.block k (h.foot_lt hk)
theorem Rd.tch {S : Nat → Prop} {n : Nat} (h : Rd w w.heap.size A n bs) (ht : Tch S w w') (hd : ∀ a, A = some a → ¬ S a.block) : Rd w' w'.heap.size A n bs := by
  refine ⟨h.1, fun hn => ?_⟩
  obtain ⟨b, off, e, hb, hc⟩ := h.2 hn
  refine ⟨b, off, e, Nat.lt_of_lt_of_le hb ht.size, fun j u hu => ?_⟩
  exact (World.cell?_of_block (w := w) (a := ⟨b, off + j, none⟩) (ht.block b hb (hd _ e))).trans (hc j u hu)
end

end Go.Proofs.Ytbemaoncakcnjaa

/- The contracts of an arena's calls that only read. -/
namespace Go.Proofs.Ytbemaoncakcnjaa
open Go.RowKit

theorem ret_place {a b : Int} (h : a = b) : Ending.returned (.tuple #[.int .u64 a, .bool true]) = .returned (.tuple #[.int .u64 b, .bool true]) := by rw [h]

section
variable {w : World} {g base cap c : Nat} {A : Option Addr} {bs : List UInt8}
set_option maxRecDepth 100000 in
set_option maxHeartbeats 400000 in
theorem len_any (h : Ar w 74 g base cap A c bs) :
    Calls Try.prog 33 #[.pointer (some ⟨g, 0, none⟩)] w fun e w' => e = .returned (.int .i64 (bs.length : Int)) ∧ w = w' := by
  have c2 := h.c2
  go_enter Try.func33, Try.ntmps33
  go_wp2
  go_ret
  exact ⟨rfl, rfl⟩

set_option maxRecDepth 100000 in
set_option maxHeartbeats 400000 in
theorem cap_any (h : Ar w 74 g base cap A c bs) :
    Calls Try.prog 38 #[.pointer (some ⟨g, 0, none⟩)] w fun e w' => e = .returned (.int .i64 (cap : Int)) ∧ w = w' := by
  have c1 := h.c1
  go_enter Try.func38, Try.ntmps38
  go_wp2
  go_ret
  exact ⟨rfl, rfl⟩

set_option maxRecDepth 100000 in
set_option maxHeartbeats 400000 in
theorem base_any (h : Ar w 74 g base cap A c bs) :
    Calls Try.prog 14 #[.pointer (some ⟨g, 0, none⟩)] w fun e w' => e = .returned (.int .u64 (base : Int)) ∧ w = w' := by
  have c0 := h.c0
  go_enter Try.func14, Try.ntmps14
  go_wp2
  go_ret
  exact ⟨rfl, rfl⟩

set_option maxRecDepth 100000 in
set_option maxHeartbeats 400000 in
theorem place_yes (h : Ar w 74 g base cap A c bs) (hl : bs.length ≤ 1000000) (x n : Nat) (hx : x < 18446744073709551616) (h1 : base ≤ x) (h2 : x - base + n ≤ bs.length) :
    Calls Try.prog 53 #[.pointer (some ⟨g, 0, none⟩), .int .u64 (x : Int), .int .u64 (n : Int)] w fun e w' => e = .returned (.tuple #[.int .u64 ((x - base : Nat) : Int), .bool true]) ∧ w = w' := by
  have c0 := h.c0
  have c2 := h.c2
  obtain ⟨d, rfl⟩ : ∃ d, x = base + d := ⟨x - base, by omega⟩
  have e1 : base + d - base = d := by omega
  rw [e1] at h2 ⊢
  clear e1
  have s1 : decide ((d : Int) ≤ (bs.length : Int)) = true := decide_eq_true (by omega)
  have s2 : decide ((n : Int) ≤ (bs.length : Int) - (d : Int)) = true := decide_eq_true (by omega)
  go_enter Try.func53, Try.ntmps53
  go_wp2
  go_ret2
  exact ⟨ret_place (by omega), rfl⟩

set_option maxRecDepth 100000 in
set_option maxHeartbeats 400000 in
theorem place_no (h : Ar w 74 g base cap A c bs) (hl : bs.length ≤ 1000000) (x n : Nat) (hx : x < 18446744073709551616) (h2 : base ≤ x → bs.length < x - base + n) :
    Calls Try.prog 53 #[.pointer (some ⟨g, 0, none⟩), .int .u64 (x : Int), .int .u64 (n : Int)] w fun e w' => e = .returned (.tuple #[.int .u64 0, .bool false]) ∧ w = w' := by
  have c0 := h.c0
  have c2 := h.c2
  by_cases h1 : base ≤ x
  · have h2 := h2 h1
    obtain ⟨d, rfl⟩ : ∃ d, x = base + d := ⟨x - base, by omega⟩
    have e1 : base + d - base = d := by omega
    rw [e1] at h2
    clear e1
    by_cases h3 : bs.length < d
    · go_enter Try.func53, Try.ntmps53
      go_wp2
      go_ret2
      exact ⟨rfl, rfl⟩
    · have s2 : decide ((bs.length : Int) - (d : Int) < (n : Int)) = true := decide_eq_true (by omega)
      go_enter Try.func53, Try.ntmps53
      go_wp2
      go_ret2
      exact ⟨rfl, rfl⟩
  · clear h2
    have h3 : x < base := by omega
    go_enter Try.func53, Try.ntmps53
    go_wp2
    go_ret2
    exact ⟨rfl, rfl⟩
end

end Go.Proofs.Ytbemaoncakcnjaa

/- append(own, make([]byte, k)...): k bytes more that are 0. No program in sight. -/
namespace Go.Proofs.Ytbemaoncakcnjaa
open Go.RowKit

theorem zeros_bv (k : Nat) : Builtin.zeroCells (Value.int .u8 0).cells k = ((List.replicate k (0 : UInt8)).map bv).toArray := by
  apply Array.ext
  · simp [Builtin.zeroCells, Value.cells]
  · intro i h1 h2
    simp [Builtin.zeroCells, Value.cells, bv, Nat.mod_one]

theorem run_append_zeros {P : Program} (w : World) (t tn ty e : TypeId) (kn : IntKind) (ht : P.underlying t = some (.slice e)) (htn : P.underlying tn = some (.int kn))
    (hinfo : (P.info? e).map (fun i => (i.zero, i.size, i.bytes)) = some (some (.int .u8 0), 1, 1))
    (base : Nat) (A : Option Addr) (c : Nat) (bs : List UInt8) (hown : w.ownsRow base e 1 (.slice A bs.length c) bs.length (bs.map bv)) (k : Nat) (hk : bs.length + k ≤ 1000000) (hbase : base ≤ w.heap.size) :
    ∃ A' c' w', (Builtin.append_ #[t, tn] ty #[.slice A bs.length c, .int .i64 (k : Int)]).run P w = .ok (.slice A' (bs.length + k) c') w' ∧
      w'.ownsRow base e 1 (.slice A' (bs.length + k) c') (bs.length + k) ((bs ++ List.replicate k 0).map bv) ∧ w.grownBy w' (Value.slice A bs.length c).ownBlock ∧ (A' = A ∨ A' = some ⟨w.heap.size, 0, none⟩) := by
  obtain ⟨i, hi, hz, hs, hb⟩ := info_parts hinfo
  have hw : IntKind.i64.wrap (k : Int) = k := by rw [IntKind.wrap_i64]; omega
  have hw0 : IntKind.i64.wrap (0 : Int) = 0 := by decide
  have hneg : ¬ ((k : Int) < 0) := by omega
  have h48 : ¬ (281474976710656 < (k : Int)) := by omega
  have hlen : ((bs ++ List.replicate k 0).map bv).length = bs.length + k := by simp
  have hc : bs.length ≤ c := by
    rcases hown.2 with ⟨h', h0⟩ | ⟨g', cap', cur, h', _, _, h1, _⟩
    · rw [h0]; exact Nat.zero_le _
    · injection h' with _ _ e3; subst e3; exact h1
  by_cases hroom : bs.length + k ≤ c
  · rcases hown.2 with ⟨h', h0⟩ | ⟨g, cap, cur, h', hbg, hg, hnc, hcm, hcs, htake⟩
    · injection h' with e1 e2 e3
      subst e1 e3
      obtain rfl : k = 0 := by omega
      refine ⟨none, 0, w, ?_, by simpa using hown, World.grownBy.refl w _, .inl rfl⟩
      simp [Builtin.append_, run_underlying ht, run_underlying htn, sizeOf, typeInfo, hi, hb, asInt, asIntOf, h0, hw0]
    · injection h' with e1 e2 e3
      subst e1 e3
      have hfit : bs.length + 0 + ((List.replicate k (0 : UInt8)).map bv).length ≤ cur.size := by simp; omega
      have hst := run_storeCells_at P g bs.length e ((List.replicate k (0 : UInt8)).map bv) 0 cur w hg hfit (bv_one _)
      refine ⟨some ⟨g, 0, none⟩, c, _, ?_, ⟨by simp, .inr ⟨g, c, _, rfl, hbg, setRow_heap w g cur ((cur.toList.take bs.length ++ (List.replicate k (0 : UInt8)).map bv ++ cur.toList.drop (bs.length + k)).toArray) e _ hg, hroom, hcm, ?_, ?_⟩⟩, ⟨rfl, rfl, rfl, by simp, fun j _ hj => setRow_other w g j _ (fun e => hj (by simp [Value.ownBlock, e]))⟩, .inl rfl⟩
      · simp only [Nat.add_zero, List.length_map, List.length_replicate] at hst
        by_cases h0 : k = 0
        · subst h0
          simp only [List.replicate_zero, List.map_nil] at hst
          simp [Builtin.append_, run_underlying ht, run_underlying htn, sizeOf, typeInfo, zeroValue, hi, hz, hs, hb, asInt, asIntOf, hnc, hw0, Addr.add_lit, hst]
        · simp [Builtin.append_, run_underlying ht, run_underlying htn, sizeOf, typeInfo, zeroValue, hi, hz, hs, hb, asInt, asIntOf, hw, hneg, h48, h0, hroom, Addr.add_lit, zeros_bv, -List.map_replicate, hst]
      · simp; omega
      · have ht' : cur.toList.take bs.length = bs.map bv := by simpa using htake
        simp only [ht', Nat.mul_one]
        rw [← List.map_append, ← hlen]
        exact List.take_left
  · have h0 : 0 < k := by omega
    have hold : (Builtin.firstCells i.size bs.length (.slice A bs.length c)).run P w.drew = .ok (bs.map bv).toArray w.drew := by
      rcases hown.2 with ⟨h', h0⟩ | ⟨g, cap, cur, h', hbg, hg, hnc, hcm, hcs, htake⟩
      · injection h' with e1 e2 e3
        subst e1
        obtain rfl : bs = [] := List.eq_nil_of_length_eq_zero h0
        simp [Builtin.firstCells]
      · injection h' with e1 e2 e3
        subst e1 e3
        exact run_firstCells_some (P := P) w.drew i.size bs.length ⟨g, 0, none⟩ bs.length c (bs.map bv) (by simp [hs]) (fun j u hu => hown.cells (g := g) rfl j u hu)
    have hr := Lib.run_append_grow_zeros (P := P) w t tn ty e i (.int .u8 0) .i64 kn ht htn hi hz A bs.length c (bs.map bv) hold k h0 (by omega) (by omega) (by omega) (by rw [hb]; omega)
      (by have := nextslicecap_le (need := bs.length + k) (old := c) (by omega); rw [hb]; omega)
    have hge := grownCap_ge w (bs.length + k) c e
    have hcm : grownCap w (bs.length + k) c e ≤ maxLen := grownCap_le_maxLen w (bs.length + k) c e (by unfold maxLen; omega)
    refine ⟨_, _, _, hr, ⟨by simp, .inr ⟨w.heap.size, _, _, rfl, hbase, heap_alloc_new w.drew _, hge, hcm, ?_, ?_⟩⟩, ⟨rfl, rfl, rfl, by simp, fun j hj _ => Below.heap_alloc w.drew _ j hj⟩, .inr rfl⟩
    · simp only [Array.size_append, List.size_toArray, List.length_map, size_zeroCells, Value.cells]
      simp
      omega
    · simp only [Array.toList_append, zeros_bv, List.append_assoc]
      rw [← List.append_assoc, ← List.map_append, Nat.mul_one, ← hlen]
      exact List.take_left

section
variable {w w2 : World} {t : TypeId} {g base cap c c' : Nat} {A A' : Option Addr} {bs bs' : List UInt8}
theorem own_ne {o : Array Value} (h : w.ownsRow 0 5 1 (.slice A bs.length c) bs.length (bs.map bv)) (hg : w.heap[g]? = some (.cells o t (0, 0))) (ht : t ≠ 5) {a : Addr} (e : A = some a) : a.block ≠ g := by
  subst e
  rcases h.2 with ⟨h', _⟩ | ⟨g', cap', cur, h', _, hh, _⟩
  · cases h'
  · injection h' with e1
    injection e1 with e1
    subst e1
    intro e2
    have e2 : g' = g := e2
    subst e2
    rw [hh] at hg
    injection hg with hg
    injection hg with _ hg
    exact ht hg.symm

/-- The bytes' row was put anew, and is laid into the arena's third cell. -/
theorem Ar.laid (h : Ar w t g base cap A c bs) (ht : t ≠ 5) (hgr : w.grownBy w2 (Value.slice A bs.length c).ownBlock) (hown : w2.ownsRow 0 5 1 (.slice A' bs'.length c') bs'.length (bs'.map bv)) :
    w2.cell? ⟨g, 2, none⟩ = some (.slice A bs.length c) ∧ w2.frozen? ⟨g, 2, none⟩ = false ∧ Ar (w2.setCell ⟨g, 2, none⟩ (.slice A' bs'.length c')) t g base cap A' c' bs' ∧ Tch (foot g A) w (w2.setCell ⟨g, 2, none⟩ (.slice A' bs'.length c')) := by
  have hg2 : w2.heap[g]? = w.heap[g]? := hgr.block g h.lt (by
    rcases A with _ | a
    · simp [Value.ownBlock]
    · intro e
      have e : g = a.block := by simpa [Value.ownBlock] using e
      exact own_ne h.own h.obj ht rfl e.symm)
  refine ⟨(World.cell?_of_block (a := ⟨g, 2, none⟩) hg2).trans h.c2, (World.frozen?_of_block (a := ⟨g, 2, none⟩) hg2).trans (h.thaw 2), ⟨?_, hown.1, ?_⟩, ?_⟩
  · have := hg2.trans h.obj
    rw [heap_setCell_same w2 g 2 _ t _ this]
    rfl
  · rcases hown.2 with h2 | ⟨g', cap', cur, hv, hg, hh, r⟩
    · exact .inl h2
    · refine .inr ⟨g', cap', cur, hv, hg, ?_, r⟩
      injection hv with e
      have hne := own_ne hown (hg2.trans h.obj) ht e
      rw [Below.heap_setCell _ _ _ _ hne]
      exact hh
  · refine (Tch.grown (S := foot g A) hgr fun k hk => ?_).trans (Tch.set (S := foot g A) w2 ⟨g, 2, none⟩ _ (.inl rfl)) fun _ _ h => h
    rcases A with _ | a
    · simp [Value.ownBlock] at hk
    · exact .inr ⟨a, rfl, by simpa [Value.ownBlock] using hk.symm⟩
end

/-- The arena at g, whose bytes lay at A, has these bytes now; all else that was there is as it was. -/
def Became (t : TypeId) (g base cap : Nat) (A : Option Addr) (bs' : List UInt8) (w w' : World) : Prop :=
  ∃ A' c', Ar w' t g base cap A' c' bs' ∧ Tch (foot g A) w w' ∧ (A' = A ∨ ∀ a, A' = some a → w.heap.size ≤ a.block)

end Go.Proofs.Ytbemaoncakcnjaa

/- The contracts of an arena's calls: New, Grow. -/
namespace Go.Proofs.Ytbemaoncakcnjaa
open Go.RowKit

theorem u8_inf : (Try.prog.info? 5).map (fun i => (i.zero, i.size, i.bytes)) = some (some (.int .u8 0), 1, 1) := by kernel_rfl

set_option maxRecDepth 100000 in
set_option maxHeartbeats 400000 in
theorem new_yes (w : World) (base cap : Nat) (h1 : base % 16 = 0) (h2 : base ≤ 4611686018427387904) (h3 : 1024 ≤ cap) (h4 : cap ≤ 16384) :
    Calls Try.prog 23 #[.int .u64 (base : Int), .int .i64 (cap : Int)] w fun e w' => e = .returned (.pointer (some ⟨w.heap.size, 0, none⟩)) ∧ Ar w' 74 w.heap.size base cap none 0 [] ∧ Below w.heap.size w w' := by
  have s1 : ((base : Int) % 16 != 0) = false := by rw [bne_eq_false_iff_eq]; omega
  go_enter Try.func23, Try.ntmps23
  go_wp2
  go_ret
  exact ⟨rfl, ⟨heap_alloc_new w _, World.ownsRow_nil _ _ _ _⟩, (Below.refl _ _).alloc (Nat.le_refl _) _⟩

set_option maxRecDepth 100000 in
set_option maxHeartbeats 400000 in
theorem new_no (w : World) (base : Nat) (cap : Int) (hb : base < 18446744073709551616) (hc : -9223372036854775808 ≤ cap ∧ cap ≤ 9223372036854775807) (h : base % 16 ≠ 0 ∨ 4611686018427387904 < base ∨ cap < 1024 ∨ 16384 < cap) :
    Calls Try.prog 23 #[.int .u64 (base : Int), .int .i64 cap] w fun e w' => e = .returned (.pointer none) ∧ w = w' := by
  obtain ⟨hc1, hc2⟩ := hc
  by_cases h1 : base % 16 = 0
  · have s1 : ((base : Int) % 16 != 0) = false := by rw [bne_eq_false_iff_eq]; omega
    by_cases h2 : 4611686018427387904 < base
    · clear h h1
      go_enter Try.func23, Try.ntmps23
      go_wp2
      go_ret
      exact ⟨rfl, rfl⟩
    · by_cases h3 : cap < 1024
      · clear h h1
        go_enter Try.func23, Try.ntmps23
        go_wp2
        go_ret
        exact ⟨rfl, rfl⟩
      · have h4 : 16384 < cap := by omega
        clear h h1
        go_enter Try.func23, Try.ntmps23
        go_wp2
        go_ret
        exact ⟨rfl, rfl⟩
  · have s1 : ((base : Int) % 16 != 0) = true := by rw [bne_iff_ne]; omega
    clear h h1
    go_enter Try.func23, Try.ntmps23
    go_wp2
    go_ret
    exact ⟨rfl, rfl⟩

section
variable {w : World} {g base cap c : Nat} {A : Option Addr} {bs : List UInt8}
set_option maxRecDepth 100000 in
set_option maxHeartbeats 400000 in
theorem grow_full (h : Ar w 74 g base cap A c bs) (n : Nat) (hl : bs.length ≤ cap) (hcap : cap ≤ 16384) (hn : cap < bs.length + n) :
    Calls Try.prog 24 #[.pointer (some ⟨g, 0, none⟩), .int .i64 (n : Int)] w fun e w' => e = .returned (.iface 58 (.int .i64 5)) ∧ ∃ k, w' = w.drewN k := by
  have c1 := h.c1
  have c2 := h.c2
  have s1 : IntKind.i64.wrap ((cap : Int) - (bs.length : Int)) = (cap : Int) - (bs.length : Int) := IntWalk.i64_in _ (by omega)
  have s2 : decide ((cap : Int) - (bs.length : Int) < (n : Int)) = true := decide_eq_true (by omega)
  go_enter Try.func24, Try.ntmps24
  go_wp2
  go_quiet (fail)
  go_wp2
  go_ret
  exact ⟨rfl, _, rfl⟩

set_option maxRecDepth 100000 in
set_option maxHeartbeats 400000 in
theorem grow_ok (h : Ar w 74 g base cap A c bs) (n : Nat) (hl : bs.length ≤ cap) (hcap : cap ≤ 16384) (hn : bs.length + n ≤ cap) :
    Calls Try.prog 24 #[.pointer (some ⟨g, 0, none⟩), .int .i64 (n : Int)] w fun e w' => e = .returned .nilIface ∧ Became 74 g base cap A (bs ++ List.replicate n 0) w w' := by
  obtain ⟨bs', hbs'⟩ : ∃ bs', bs ++ List.replicate n 0 = bs' := ⟨_, rfl⟩
  rw [hbs']
  have HB := Lib.hid hbs'
  clear hbs'
  have c1 := h.c1
  have c2 := h.c2
  have s1 : IntKind.i64.wrap ((cap : Int) - (bs.length : Int)) = (cap : Int) - (bs.length : Int) := IntWalk.i64_in _ (by omega)
  have s2 : decide ((cap : Int) - (bs.length : Int) < (n : Int)) = false := decide_eq_false (by omega)
  go_enter Try.func24, Try.ntmps24
  go_wp2
  go_quiet (fail)
  clear s1 s2
  obtain ⟨A', c', w2, hr, hown, hgr, hA⟩ := run_append_zeros (P := Try.prog) (w.drewN nq) 44 3 44 5 .i64 Try.underlying44 Try.underlying3 u8_inf 0 A c bs h.own n (by omega) (Nat.zero_le _)
  have e1 : bs.length + n = bs'.length := by rw [← HB.out]; simp
  rw [e1] at hr hown
  rw [HB.out] at hown
  obtain ⟨d2, f2, har, htc⟩ := (h.drewN nq).laid (by decide) hgr hown
  have hfin : Became 74 g base cap A bs' w (w2.setCell ⟨g, 2, none⟩ (.slice A' bs'.length c')) :=
    ⟨A', c', har, ⟨htc.os, htc.tape, htc.output, htc.size, htc.block⟩, hA.imp id fun e a ha => by rw [e] at ha; cases ha; exact Nat.le_refl _⟩
  have HR := Lib.hid hr
  have HF := Lib.hid hfin
  clear hr hfin hown hgr hA har htc e1 HB hn hl hcap
  go_wp2_with (at_builtin; refine Lib.wpList_append_run _ rfl (.tmp 25) (.tmp 26) 44 3 rfl _ _ rfl rfl _ _ HR.out ?_)
  go_ret
  exact ⟨rfl, HF.out⟩
end

end Go.Proofs.Ytbemaoncakcnjaa

/- The contracts of an arena's calls: Store, Load, and of slices.Clone. -/
namespace Go.Proofs.Ytbemaoncakcnjaa
open Go.RowKit

/-- bs with cs laid over it from place off on. -/
def lay (bs : List UInt8) (off : Nat) (cs : List UInt8) : List UInt8 := bs.take off ++ (cs ++ bs.drop (off + cs.length))
theorem lay_length (bs : List UInt8) (off : Nat) (cs : List UInt8) (h : off + cs.length ≤ bs.length) : (lay bs off cs).length = bs.length := by
  simp [lay]; omega
theorem lay_nil (bs : List UInt8) (off : Nat) : lay bs off [] = bs := by simp [lay]

/-- A row of the call's own. -/
def NewRow (bs : List UInt8) (w : World) (e : Ending) (w' : World) : Prop :=
  ∃ A' c', e = .returned (.slice A' bs.length c') ∧ w'.ownsRow w.heap.size 5 1 (.slice A' bs.length c') bs.length (bs.map bv) ∧ Below w.heap.size w w'
/-- The same beside an error that is none. -/
def Told (bs : List UInt8) (w : World) (e : Ending) (w' : World) : Prop :=
  ∃ A' c', e = .returned (.tuple #[.slice A' bs.length c', .nilIface]) ∧ w'.ownsRow w.heap.size 5 1 (.slice A' bs.length c') bs.length (bs.map bv) ∧ Below w.heap.size w w'

theorem own_slice {w : World} {base n : Nat} {v : Value} {bs : List UInt8} (h : w.ownsRow base 5 1 v n (bs.map bv)) : n = bs.length ∧ ∃ A c, v = .slice A bs.length c := by
  have e : n = bs.length := by have := h.1; simp at this; exact this.symm
  subst e
  obtain ⟨A, c, e, _⟩ := own_any h
  exact ⟨rfl, A, c, e⟩

set_option maxRecDepth 100000 in
set_option maxHeartbeats 400000 in
theorem sclone_any (A : Option Addr) (c B : Nat) (bs : List UInt8) (w : World) (h : Rd w B A bs.length bs) (hB : B ≤ w.heap.size) (hA : A = none → c = 0) (hn : bs.length ≤ 1000000) :
    Calls Try.prog 51 #[.slice A bs.length c] w fun e w' => NewRow bs w e w' := by
  rcases A with _ | ad
  · obtain rfl := hA rfl
    have h0 : bs = [] := by
      rcases Nat.eq_zero_or_pos bs.length with h0 | h0
      · exact List.eq_nil_of_length_eq_zero h0
      · obtain ⟨_, _, e1, _⟩ := h.2 h0
        cases e1
    subst h0
    clear hA h
    have q : ∀ W : World, (binOp .eql 44 (.slice none 0 0) (.slice none 0 0)).run Try.prog W = .ok (.bool true) W := fun _ => rfl
    go_enter Try.func51, Try.ntmps51
    go_wp2
    go_ret
    exact ⟨none, 0, rfl, World.ownsRow_nil _ _ _ _, Below.refl _ _⟩
  · have own1 : (w.alloc (.cells #[] 5)).ownsRow w.heap.size 5 1 (.slice (some ⟨w.heap.size, 0, none⟩) 0 0) 0 (([] : List UInt8).map bv) := World.ownsRow_lit w _ 0 (Nat.le_refl _) (by unfold maxLen; omega) rfl
    have r1 := h.alloc hB (.cells #[] 5)
    clear hA
    have q : ∀ W : World, (binOp .eql 44 (.slice (some ad) bs.length c) (.slice none 0 0)).run Try.prog W = .ok (.bool false) W := fun _ => rfl
    go_enter Try.func51, Try.ntmps51
    go_wp2_with (first
      | (at_builtin; go_must (refine append_bytes rfl (.tmp 5) (.tmp 6) 44 5 rfl Try.underlying44 u8_inf w.heap.size (.slice (some ⟨w.heap.size, 0, none⟩) 0 0) 0 [] rfl own1 B (some ad) bs.length c bs rfl r1 (by simp) (by omega) (by simp) ?_); intro x2 w2 own2 hb2 gr2; have hb12 : Below w.heap.size w w2 := ((Below.refl _ _).alloc (Nat.le_refl _) _).trans hb2; have own3 : w2.ownsRow w.heap.size 5 1 x2 bs.length (bs.map bv) := (by simpa using own2); clear own1 own2 gr2 hb2 r1))
    go_ret
    obtain ⟨_, A', c', rfl⟩ := own_slice own3
    exact ⟨A', c', rfl, own3, hb12⟩

section
variable {w : World} {t : TypeId} {g base cap c : Nat} {A : Option Addr} {bs : List UInt8}
theorem place_at (h : Ar w 74 g base cap A c bs) (hl : bs.length ≤ 1000000) (x n d : Nat) (hx : x < 18446744073709551616) (h1 : base ≤ x) (hd : x - base = d) (h2 : d + n ≤ bs.length) :
    Calls Try.prog 53 #[.pointer (some ⟨g, 0, none⟩), .int .u64 (x : Int), .int .u64 (n : Int)] w fun e w' => e = .returned (.tuple #[.int .u64 (d : Int), .bool true]) ∧ w = w' := by
  subst hd
  exact place_yes h hl x n hx h1 h2

set_option maxRecDepth 100000 in
set_option maxHeartbeats 1000000 in
theorem load_ok (h : Ar w 74 g base cap A c bs) (hl : bs.length ≤ 1000000) (x n d : Nat) (hx : x < 18446744073709551616) (h1 : base ≤ x) (hd : x - base = d) (h2 : d + n ≤ bs.length) :
    Calls Try.prog 32 #[.pointer (some ⟨g, 0, none⟩), .int .u64 (x : Int), .int .u64 (n : Int)] w fun e w' => Told ((bs.drop d).take n) w e w' := by
  have hp := place_at h hl x n d hx h1 hd h2
  have HP := Lib.hid hp
  clear hp hd
  have c2 := h.c2
  have hlen : ((bs.drop d).take n).length = n := by simp; omega
  have hle := h.le
  have hrd := h.reads
  obtain ⟨ys, hys⟩ : ∃ ys, (bs.drop d).take n = ys := ⟨_, rfl⟩
  rw [hys] at hlen ⊢
  rcases A with _ | ad
  · obtain ⟨rfl, rfl⟩ := h.none_
    obtain rfl : n = 0 := by simp at h2; omega
    obtain rfl : d = 0 := by simp at h2; omega
    obtain rfl : ys = [] := List.eq_nil_of_length_eq_zero hlen
    have HC := Lib.hid (sclone_any none 0 0 [] w Rd.nil_ (Nat.zero_le _) (fun _ => rfl) (by simp))
    clear hys hlen hle hrd h1 h2 hl hx
    go_enter Try.func32, Try.ntmps32
    go_wp2_with fail
    refine HP.out.mono ?_
    rintro e w' ⟨rfl, rfl⟩
    go_wp2_with fail
    refine HC.out.mono ?_
    rintro e w' ⟨A', c', rfl, ho, hb⟩
    go_wp2
    go_ret2
    exact ⟨A', c', rfl, ho, hb⟩
  · obtain ⟨h', rfl, cur, hrow, _, hmax, hsz, htake⟩ := h.row rfl
    unfold maxLen at hmax
    have hrs := hrd.sub d n h2
    rw [hys] at hrs
    clear hys hrd
    subst hlen
    have HROW := Lib.hid hrow
    clear hrow hsz htake
    have HC : Hid (Calls Try.prog 51 #[.slice (if c = d then some ⟨h', 0, none⟩ else some ⟨h', d, none⟩) ys.length (c - d)] w fun e w' => NewRow ys w e w') := by
      by_cases hdc : c = d
      · rw [if_pos hdc]
        exact sclone_any _ _ w.heap.size ys w ⟨rfl, fun hn => absurd hn (by omega)⟩ (Nat.le_refl _) (fun e => by cases e) (by omega)
      · rw [if_neg hdc]
        rw [Nat.zero_add] at hrs
        exact sclone_any _ _ w.heap.size ys w hrs (Nat.le_refl _) (fun e => by cases e) (by omega)
    clear HROW hrs
    by_cases hdc : c = d
    all_goals
      first | (rw [if_pos hdc, hdc, Nat.sub_self] at HC) | rw [if_neg hdc] at HC
      go_enter Try.func32, Try.ntmps32
      go_wp2_with fail
      refine HP.out.mono ?_
      rintro e w' ⟨rfl, rfl⟩
      go_wp2_with fail
      with_reducible refine HC.out.mono ?_
      rintro e w' ⟨A', c', rfl, ho, hb⟩
      go_wp2
      go_ret2
      exact ⟨A', c', rfl, ho, hb⟩

set_option maxRecDepth 100000 in
set_option maxHeartbeats 400000 in
theorem store_no (h : Ar w 74 g base cap A c bs) (hl : bs.length ≤ 1000000) (x n : Nat) (B : Option Addr) (k : Nat) (hx : x < 18446744073709551616) (hn : n ≤ 9223372036854775807) (h2 : base ≤ x → bs.length < x - base + n) :
    Calls Try.prog 48 #[.pointer (some ⟨g, 0, none⟩), .int .u64 (x : Int), .slice B n k] w fun e w' => e = .returned (.iface 58 (.int .i64 2)) ∧ w = w' := by
  have HP := Lib.hid (place_no h hl x n hx h2)
  clear h2
  go_enter Try.func48, Try.ntmps48
  go_wp2_with fail
  with_reducible refine HP.out.mono ?_
  rintro e w' ⟨rfl, rfl⟩
  go_wp2
  go_ret
  exact ⟨rfl, rfl⟩

theorem over_take {α : Type} (b r : List α) (off : Nat) (cs : List α) (h : off + cs.length ≤ b.length) : ((b ++ r).take off ++ (cs ++ (b ++ r).drop (off + cs.length))).take b.length = b.take off ++ (cs ++ b.drop (off + cs.length)) := by
  have e1 : (b ++ r).take off = b.take off := List.take_append_of_le_length (by omega)
  rw [e1, List.drop_append_of_le_length h, ← List.append_assoc cs, ← List.append_assoc]
  exact List.take_left' (by simp; omega)

/-- Bytes laid over the arena's row. -/
theorem Ar.over (h : Ar w t g base cap A c bs) (ht : t ≠ 5) {h' : Nat} (hA : A = some ⟨h', 0, none⟩) {cur : Array Value} (hrow : w.heap[h']? = some (.cells cur 5 (0, 0))) (hsz : cur.size = c) (htake : cur.toList.take bs.length = bs.map bv) (off : Nat) (cs : List UInt8) (hfit : off + cs.length ≤ bs.length) :
    Became t g base cap A (lay bs off cs) w (w.setRow h' (cur.toList.take off ++ (cs.map bv ++ cur.toList.drop (off + (cs.map bv).length))).toArray) := by
  have hle := h.le
  have hlen := lay_length bs off cs hfit
  subst hA
  have hne : h' ≠ g := own_ne h.own h.obj ht rfl
  obtain ⟨_, _, _, hr', _, hmax, _⟩ := h.row rfl
  refine ⟨some ⟨h', 0, none⟩, c, ⟨?_, ?_, .inr ⟨h', c, _, rfl, Nat.zero_le _, setRow_heap w h' _ _ _ _ hrow, by omega, hmax, ?_, ?_⟩⟩, ⟨rfl, rfl, rfl, by simp [World.setRow], fun k _ hk => setRow_other w h' k _ (fun e => hk (.inr ⟨_, rfl, e⟩))⟩, .inl rfl⟩
  · rw [setRow_other w h' g _ (Ne.symm hne), hlen]
    exact h.obj
  · simp
  · simp; omega
  · rw [Nat.mul_one, hlen, List.toList_toArray]
    have e1 : cur.toList = bs.map bv ++ cur.toList.drop bs.length := by rw [← htake, List.take_append_drop]
    have e2 : bs.length = (bs.map bv).length := by simp
    rw [e1, e2]
    rw [over_take (bs.map bv) _ off (cs.map bv) (by simpa using hfit)]
    simp [lay]

set_option maxRecDepth 100000 in
set_option maxHeartbeats 1000000 in
theorem store_ok (h : Ar w 74 g base cap A c bs) (hl : bs.length ≤ 1000000) (x d : Nat) (B : Option Addr) (k : Nat) (cs : List UInt8) (B0 : Nat) (hr : Rd w B0 B cs.length cs) (hx : x < 18446744073709551616) (h1 : base ≤ x) (hd : x - base = d) (h2 : d + cs.length ≤ bs.length) :
    Calls Try.prog 48 #[.pointer (some ⟨g, 0, none⟩), .int .u64 (x : Int), .slice B cs.length k] w fun e w' => e = .returned .nilIface ∧ Became 74 g base cap A (lay bs d cs) w w' := by
  have HP := Lib.hid (place_at h hl x cs.length d hx h1 hd h2)
  clear hd
  have c2 := h.c2
  have hle := h.le
  rcases Nat.eq_zero_or_pos cs.length with h0 | h0
  · obtain rfl : cs = [] := List.eq_nil_of_length_eq_zero h0
    rw [lay_nil]
    have HF : Hid (Became 74 g base cap A bs w w) := ⟨A, c, h, Tch.refl _ _, .inl rfl⟩
    simp only [List.length_nil] at HP h2 ⊢
    clear hr h0
    by_cases hdc : c = d
    all_goals
      go_enter Try.func48, Try.ntmps48
      go_wp2_with fail
      refine HP.out.mono ?_
      rintro e w' ⟨rfl, rfl⟩
      go_wp2_with (refine wpList_copy_nothing rfl (.tmp 26) (.tmp 27) 44 44 rfl 5 Try.underlying44 (by kernel_rfl) _ _ _ _ _ _ rfl rfl (by simp) ?_)
      go_ret
      exact ⟨rfl, HF.out⟩
  · rcases A with _ | ad
    · obtain ⟨rfl, _⟩ := h.none_
      rw [List.length_nil] at h2
      omega
    · obtain ⟨h', rfl, cur, hrow, _, hmax, hsz, htake⟩ := h.row rfl
      unfold maxLen at hmax
      obtain ⟨b, off, rfl, hb, hc⟩ := hr.2 h0
      have HF := Lib.hid (h.over (by decide) rfl hrow hsz htake d cs h2)
      have hfit : d + (cs.map bv).length ≤ cur.size := by simp; omega
      have HSRC := Lib.hid (rd_cells hr)
      have HN : Hid ((cs.map bv).length = Nat.min cs.length (bs.length - d)) := by
        show _ = _
        rw [List.length_map]
        exact (Nat.min_eq_left (by omega)).symm
      have hdc : ¬ c = d := by omega
      have HROW := Lib.hid hrow
      have HFIT := Lib.hid hfit
      clear hrow hsz htake hr hc hfit
      go_enter Try.func48, Try.ntmps48
      go_wp2_with fail
      with_reducible refine HP.out.mono ?_
      rintro e w' ⟨rfl, rfl⟩
      go_wp2_with (refine wpList_copy_own rfl (.tmp 26) (.tmp 27) 44 44 rfl 5 Try.underlying44 (by kernel_rfl) h' d (bs.length - d) (c - d) ⟨b, off, none⟩ cs.length k rfl rfl cur 5 HROW.out (cs.map bv) HN.out HSRC.out HFIT.out (bv_one cs) ?_)
      go_ret
      exact ⟨rfl, by simpa only [List.length_map] using HF.out⟩
end

end Go.Proofs.Ytbemaoncakcnjaa

/- The contracts of SetWord, and of the laws' words: Code, Bytes, Arena, Base. -/
namespace Go.Proofs.Ytbemaoncakcnjaa
open Go.RowKit

section
variable {w w1 w2 : World} {t : TypeId} {g base cap c B : Nat} {A : Option Addr} {bs : List UInt8}
theorem Became.after (h : Became t g base cap A bs w1 w2) (hb : Below w.heap.size w w1) : Became t g base cap A bs w w2 := by
  obtain ⟨A', c', h1, h2, h3⟩ := h
  refine ⟨A', c', h1, (Tch.of_below (S := foot g A) hb).trans h2 (fun _ _ h => h), h3.imp id fun h a ha => Nat.le_trans hb.size (h a ha)⟩
theorem Became.below (h : Became t g base cap A bs w w1) (hg : B ≤ g) (hA : ∀ a, A = some a → B ≤ a.block) (hB : B ≤ w.heap.size) :
    ∃ A' c', Ar w1 t g base cap A' c' bs ∧ Below B w w1 ∧ ∀ a, A' = some a → B ≤ a.block := by
  obtain ⟨A', c', h1, h2, h3⟩ := h
  refine ⟨A', c', h1, h2.below (fun k hk => ?_) hB, fun a ha => ?_⟩
  · rcases hk with rfl | ⟨a, e, rfl⟩
    · exact hg
    · exact hA a e
  · rcases h3 with h3 | h3
    · exact hA a (h3 ▸ ha)
    · exact Nat.le_trans hB (h3 a ha)

set_option maxRecDepth 100000 in
set_option maxHeartbeats 400000 in
theorem setword_ok (h : Ar w 74 g base cap A c bs) (hl : bs.length ≤ 1000000) (x d v : Nat) (hx : x < 18446744073709551616) (hv : v < 18446744073709551616) (h1 : base ≤ x) (hd : x - base = d) (h2 : d + 8 ≤ bs.length) :
    Calls Try.prog 70 #[.pointer (some ⟨g, 0, none⟩), .int .u64 (x : Int), .int .u64 (v : Int)] w fun e w' => e = .returned .nilIface ∧ Became 74 g base cap A (lay bs d (lowB 8 v)) w w' := by
  have HD := Lib.hid hd
  clear hd
  go_enter Try.func70, Try.ntmps70
  go_wp2_with fail
  refine (put_any v _ hv).mono ?_
  rintro e w1 ⟨rfl, hf, hb⟩
  have hr := hf.reads
  have HS := store_ok (h.below hb) hl x d (some ⟨w.heap.size, 0, none⟩) 8 (lowB 8 v) w1.heap.size hr hx h1 HD.out (by rw [lowB_length]; exact h2)
  rw [lowB_length] at HS
  have HS := Lib.hid HS
  have HB := Lib.hid hb
  clear hf hr hb
  go_wp2_with fail
  refine HS.out.mono ?_
  rintro e w2 ⟨rfl, hbe⟩
  have HE := Lib.hid (hbe.after HB.out)
  clear hbe
  go_wp2
  go_ret
  exact ⟨rfl, HE.out⟩

set_option maxRecDepth 100000 in
set_option maxHeartbeats 400000 in
theorem setword_no (h : Ar w 74 g base cap A c bs) (hl : bs.length ≤ 1000000) (x v : Nat) (hx : x < 18446744073709551616) (hv : v < 18446744073709551616) (h2 : base ≤ x → bs.length < x - base + 8) :
    Calls Try.prog 70 #[.pointer (some ⟨g, 0, none⟩), .int .u64 (x : Int), .int .u64 (v : Int)] w fun e w' => e = .returned (.iface 58 (.int .i64 2)) ∧ Below w.heap.size w w' := by
  have HD := Lib.hid h2
  clear h2
  go_enter Try.func70, Try.ntmps70
  go_wp2_with fail
  refine (put_any v _ hv).mono ?_
  rintro e w1 ⟨rfl, hf, hb⟩
  have HS := Lib.hid (store_no (h.below hb) hl x 8 (some ⟨w.heap.size, 0, none⟩) 8 hx (by omega) HD.out)
  have HB := Lib.hid hb
  clear hf hb
  go_wp2_with fail
  refine HS.out.mono ?_
  rintro e w2 ⟨rfl, rfl⟩
  go_wp2
  go_ret
  exact ⟨rfl, HB.out⟩
end

set_option maxRecDepth 100000 in
theorem code_eql (W : World) (k j : Int) : (binOp .eql 31 (.iface 58 (.int .i64 k)) (.iface 58 (.int .i64 j))).run Try.prog W = .ok (.bool (k == j)) W := by rfl

set_option maxRecDepth 100000 in
set_option maxHeartbeats 400000 in
theorem code_err (w : World) (k : Nat) (h1 : 1 ≤ k) (h2 : k ≤ 10) : Calls Try.prog 11 #[.iface 58 (.int .i64 (k : Int))] w fun e w' => e = .returned (.int .i64 (k : Int)) ∧ w = w' := by
  go_enter Try.func11, Try.ntmps11
  go_wp2
  go_loop [3] (fun i => ∃ j : Nat, 1 ≤ j ∧ j ≤ k ∧ i = .int .i64 j) (fun i => k - (intOf i).toNat)
  case atStart => exact ⟨1, by omega, h1, rfl⟩
  case round =>
    obtain ⟨j, hj1, hj2, rfl⟩ := hrel
    by_cases hlt : j < k
    · have q : ((k : Int) == (j : Int)) = false := by rw [beq_eq_false_iff_ne]; omega
      have q2 : ∀ W : World, (binOp .eql 31 (.iface 58 (.int .i64 (k : Int))) (.iface 58 (.int .i64 (j : Int)))).run Try.prog W = .ok (.bool false) W := fun W => by rw [code_eql, q]
      go_wp2
      go_round
      case rel => exact ⟨j + 1, by omega, by omega, by go_num⟩
      case measure => simp [intOf]; omega
    · obtain rfl : k = j := by omega
      have q2 : ∀ W : World, (binOp .eql 31 (.iface 58 (.int .i64 (k : Int))) (.iface 58 (.int .i64 (k : Int)))).run Try.prog W = .ok (.bool true) W := fun W => by rw [code_eql, beq_self_eq_true]
      go_wp2
      go_ret
      exact ⟨rfl, rfl⟩

section
variable {w : World} {g base cap c : Nat} {A : Option Addr} {bs : List UInt8}
set_option maxRecDepth 100000 in
set_option maxHeartbeats 400000 in
theorem bytes_any (h : Ar w 74 g base cap A c bs) (hl : bs.length ≤ 1000000) (hbase : base ≤ 4611686018427387904) :
    Calls Try.prog 15 #[.pointer (some ⟨g, 0, none⟩)] w fun e w' => NewRow bs w e w' := by
  have hk := load_ok h hl base bs.length 0 (by omega) (Nat.le_refl _) (by omega) (by omega)
  rw [List.drop_zero, List.take_length] at hk
  have HK := Lib.hid hk
  clear hk
  go_enter Try.func15, Try.ntmps15
  go_wp2_with fail
  refine (base_any h).mono ?_
  rintro e w1 ⟨rfl, rfl⟩
  go_wp2_with fail
  refine (len_any h).mono ?_
  rintro e w1 ⟨rfl, rfl⟩
  go_wp2_with fail
  refine HK.out.mono ?_
  rintro e w1 ⟨A', c', rfl, ho, hb⟩
  have HO := Lib.hid ho
  clear ho
  go_wp2
  go_ret
  exact ⟨A', c', rfl, HO.out, hb⟩
end

end Go.Proofs.Ytbemaoncakcnjaa

/- The contracts of an arena's calls: Widen, Word, Fill; and of the document's own arena: Grow, Widen, There. -/
namespace Go.Proofs.Ytbemaoncakcnjaa
open Go.RowKit

section
variable {w : World} {t : TypeId} {g base cap c : Nat} {A : Option Addr} {bs : List UInt8}
set_option maxRecDepth 100000 in
set_option maxHeartbeats 400000 in
theorem word_ok (h : Ar w 74 g base cap A c bs) (hl : bs.length ≤ 1000000) (x d : Nat) (hx : x < 18446744073709551616) (h1 : base ≤ x) (hd : x - base = d) (h2 : d + 8 ≤ bs.length) :
    Calls Try.prog 84 #[.pointer (some ⟨g, 0, none⟩), .int .u64 (x : Int)] w fun e w' => e = .returned (.tuple #[.int .u64 (numB ((bs.drop d).take 8) : Int), .nilIface]) ∧ w = w' := by
  have HP := Lib.hid (place_at h hl x 8 d hx h1 hd h2)
  have HG := Lib.hid (get_yes A bs.length c w.heap.size bs d w h.reads h.le hl h2)
  have c2 := h.c2
  clear hd
  go_enter Try.func84, Try.ntmps84
  go_wp2_with fail
  refine HP.out.mono ?_
  rintro e w' ⟨rfl, rfl⟩
  go_wp2_with fail
  refine HG.out.mono ?_
  rintro e w' ⟨rfl, rfl⟩
  go_wp2
  go_ret2
  exact ⟨rfl, rfl⟩

set_option maxRecDepth 100000 in
set_option maxHeartbeats 400000 in
theorem word_no (h : Ar w 74 g base cap A c bs) (hl : bs.length ≤ 1000000) (x : Nat) (hx : x < 18446744073709551616) (h2 : base ≤ x → bs.length < x - base + 8) :
    Calls Try.prog 84 #[.pointer (some ⟨g, 0, none⟩), .int .u64 (x : Int)] w fun e w' => e = .returned (.tuple #[.int .u64 0, .iface 58 (.int .i64 2)]) ∧ w = w' := by
  have HP := Lib.hid (place_no h hl x 8 hx h2)
  clear h2
  go_enter Try.func84, Try.ntmps84
  go_wp2_with fail
  refine HP.out.mono ?_
  rintro e w' ⟨rfl, rfl⟩
  go_wp2
  go_ret2
  exact ⟨rfl, rfl⟩

theorem lay_step (d k : Nat) (u : UInt8) (h : d + k < bs.length) : (lay bs d (List.replicate k u)).set (d + k) u = lay bs d (List.replicate (k + 1) u) := by
  have e : (bs.take d).length = d := by simp; omega
  unfold lay
  rw [List.set_append_right _ _ (by omega), e, Nat.add_sub_cancel_left, List.set_append_right _ _ (by simp)]
  simp only [List.length_replicate, Nat.sub_self]
  rw [List.drop_eq_getElem_cons (by omega), List.set_cons_zero, List.replicate_succ', List.append_assoc]
  rfl

/-- One byte of the arena's row is set. -/
theorem Ar.put1 (h : Ar w t g base cap A c bs) (ht : t ≠ 5) {h' : Nat} (hA : A = some ⟨h', 0, none⟩) (j : Nat) (u : UInt8) : Ar (w.setCell ⟨h', j, none⟩ (bv u)) t g base cap A c (bs.set j u) ∧ Tch (foot g A) w (w.setCell ⟨h', j, none⟩ (bv u)) := by
  subst hA
  have hne : g ≠ h' := (own_ne h.own h.obj ht rfl).symm
  refine ⟨⟨?_, ?_⟩, Tch.set w ⟨h', j, none⟩ _ (.inr ⟨_, rfl, rfl⟩)⟩
  · rw [Below.heap_setCell _ _ _ _ hne, List.length_set]
    exact h.obj
  · rw [List.length_set, List.map_set]
    exact (h.own.stored j (bv u)).1
theorem Ar.byte (h : Ar w t g base cap A c bs) {h' : Nat} (hA : A = some ⟨h', 0, none⟩) (j : Nat) (hj : j < bs.length) : ∃ u : UInt8, w.cell? ⟨h', j, none⟩ = some (bv u) ∧ w.frozen? ⟨h', j, none⟩ = false := by
  subst hA
  refine ⟨bs[j], ?_, h.own.frozenAt j⟩
  rw [h.own.cellAt j (by omega), List.getElem?_map, List.getElem?_eq_getElem hj]
  rfl

set_option maxRecDepth 100000 in
set_option maxHeartbeats 1000000 in
theorem fill_ok (h : Ar w 74 g base cap A c bs) (hl : bs.length ≤ 1000000) (x n d : Nat) (u : UInt8) (hx : x < 18446744073709551616) (h1 : base ≤ x) (hd : x - base = d) (h2 : d + n ≤ bs.length) :
    Calls Try.prog 72 #[.pointer (some ⟨g, 0, none⟩), .int .u64 (x : Int), .int .u64 (n : Int), .int .u8 (u.toNat : Int)] w fun e w' => e = .returned .nilIface ∧ Became 74 g base cap A (lay bs d (List.replicate n u)) w w' := by
  have HP := Lib.hid (place_at h hl x n d hx h1 hd h2)
  clear hd
  go_enter Try.func72, Try.ntmps72
  go_wp2_with fail
  refine HP.out.mono ?_
  rintro e w' ⟨rfl, rfl⟩
  go_wp2
  go_loopw [23] (fun i wr => ∃ k : Nat, k ≤ n ∧ i = .int .u64 k ∧ Ar wr 74 g base cap A c (lay bs d (List.replicate k u)) ∧ Tch (foot g A) w wr) (fun i _ => n - (intOf i).toNat)
  case atStart => exact ⟨0, Nat.zero_le _, rfl, by rw [List.replicate_zero, lay_nil]; exact h, Tch.refl _ _⟩
  case round =>
    obtain ⟨k, hk, rfl, ha, ht⟩ := hrel
    by_cases hlt : k < n
    · have hlen := lay_length bs d (List.replicate k u) (by simp; omega)
      rcases A with _ | ad
      · obtain ⟨e0, _⟩ := h.none_
        subst e0
        rw [List.length_nil] at h2
        omega
      · obtain ⟨h', rfl, _⟩ := h.row rfl
        obtain ⟨v, q1, q2⟩ := ha.byte rfl (d + k) (by omega)
        obtain ⟨p1, p2⟩ := ha.put1 (by decide) rfl (d + k) u
        rw [lay_step d k u (by omega)] at p1
        have c2 := ha.c2
        rw [hlen] at c2
        have P1 := Lib.hid p1
        have P2 := Lib.hid (ht.trans p2 (fun _ _ h => h))
        clear p1 p2 hlen ha ht
        go_wp2
        go_roundw
        case rel => exact ⟨k + 1, by omega, by go_num, P1.out, P2.out⟩
        case measure => simp [intOf]; omega
    · go_wp2
      go_ret
      obtain rfl : k = n := by omega
      exact ⟨rfl, A, c, ha, ht, .inl rfl⟩
end

end Go.Proofs.Ytbemaoncakcnjaa

/- A region that draws its order: readers, calls that wait for one another and leave what lies below a bound as it was, and a tail that comes in one order and may write anything. One walk of one order serves every order. No program in sight. -/
namespace Go.Proofs.Ytbemaoncakcnjaa
open Go.RowKit

/-- The worlds from w on, as far as what lies below block B goes. -/
def LaterB (B : Nat) (w : World) : Type := { w' : World // Below B w w' }
def LaterB.val {B : Nat} {w : World} (x : LaterB B w) : World := x.1
theorem LaterB.ext {B : Nat} {w : World} (x : LaterB B w) : Below B w x.val := x.2
instance (B : Nat) (w : World) : Nonempty (LaterB B w) := ⟨⟨w, Below.refl _ _⟩⟩
def AfterB (B : Nat) (w : World) (w' : World) : Prop := ∃ x : LaterB B w, w' = x.val
attribute [go_sem] AfterB

/-- Operations that yield a value and enter nothing. -/
def isVal : Op → Bool
  | .nilCheck _ => true
  | .build _ _ => true
  | .makeInterface _ _ => true
  | .call { callee := .builtin .len, args := _, argTypes := _ } => true
  | o => isRead o

theorem len_value {P : Program} {ρ : Operand → Value} {o : Oper} {xs : Array Operand} {ats : Array TypeId} {w w' : World} {n : Next} (ho : o.op = .call { callee := .builtin .len, args := xs, argTypes := ats }) (h : (execOp ρ o).run P w = .ok n w') : ∃ v, n = .value v := by
  obtain ⟨dst, op, ty, pos, after, guard⟩ := o
  dsimp only at ho
  subst ho
  exact run_value (s := Builtin.len_ ats ty (xs.map ρ)) h

theorem val_value {P : Program} {ρ : Operand → Value} {o : Oper} {w w' : World} {n : Next} (hr : isVal o.op = true) (h : (execOp ρ o).run P w = .ok n w') : ∃ v, n = .value v := by
  by_cases hi : isRead o.op = true
  · exact read_value hi h
  · have hr0 := hr
    have h0 := h
    unfold execOp at h
    cases ho : o.op <;> simp only [ho, isVal, isRead, Bool.false_eq_true, not_true_eq_false] at hr hi <;> simp only [ho] at h
    case nilCheck x =>
      generalize ρ x = y at h
      split at h
      · simp [runtimePanic, goPanic] at h
      · simp [runtimePanic, goPanic] at h
      · simp [runtimePanic, goPanic] at h
      · split at h
        · simp [runtimePanic, goPanic] at h
        · rw [Sem.run_bind] at h
          generalize Sem.run P program w = r at h
          cases r with
          | halt x w1 => simp [Result.andThen] at h
          | ok v w1 =>
            simp only [Result.andThen] at h
            rw [Sem.run_bind] at h
            generalize Sem.run P (nilAhead _ _ _ _) w1 = r at h
            cases r with
            | halt x w2 => simp [Result.andThen] at h
            | ok b w2 =>
              simp only [Result.andThen] at h
              by_cases hb : (b != some false) = true
              · simp [hb] at h
              · simp [hb] at h
                exact ⟨_, h.1.symm⟩
        · simp at h
          exact ⟨_, h.1.symm⟩
      · simp at h
        exact ⟨_, h.1.symm⟩
    case call c =>
      obtain ⟨callee, xs, ats⟩ := c
      rw [ho] at hr0
      cases callee with
      | builtin b =>
        cases b
        all_goals first
          | exact len_value ho h0
          | cases hr0
      | _ => cases hr0
    all_goals exact run_value h

/-- Is it a plain copy? -/
def mv (ops : Array Oper) (i : Nat) : Bool := match ops[i]? with
  | some o => (match o.op with
    | .move _ => true
    | .assign _ => true
    | _ => false)
  | none => false

/-- Whatever order comes up; behind each operation that is none of the tail's, and no copy, S holds; a copy leaves the world as it is. -/
def wpAnyT (P : Program) (ops : Array Oper) (Q : Exit → Act → World → Prop) (S : World → Prop) (T : List Nat) : Nat → Array Bool → Act → World → Prop
  | 0, l, a, w => Region.ready .any ops l = [] ∧ Q .normal a w
  | n + 1, l, a, w => (Region.ready .any ops l = [] → Q .normal a w) ∧
    ∀ i ∈ Region.ready .any ops l, wpOp P ops Q i (fun a' w' => (i ∉ T → mv ops i = false → S w') ∧ (mv ops i = true → w' = w) ∧ wpAnyT P ops Q S T n (l.setIfInBounds i true) a' w') a w

section
variable {P : Program} {ops : Array Oper} {Q : Exit → Act → World → Prop} {S S' : World → Prop} {T : List Nat}

theorem wpAnyT_any : ∀ (n : Nat) (l : Array Bool) (a : Act) (w : World), wpAnyT P ops Q S T n l a w → wpAny P .any ops Q n l a w
  | 0, _, _, _, h => h
  | n + 1, _, _, _, h => ⟨h.1, fun i hi => wpOp_mono (fun a' w' h' => wpAnyT_any n _ a' w' h'.2.2) (h.2 i hi)⟩

theorem wpAnyT_less (hS : ∀ w, S' w → S w) : ∀ (n : Nat) (l : Array Bool) (a : Act) (w : World), wpAnyT P ops Q S' T n l a w → wpAnyT P ops Q S T n l a w
  | 0, _, _, _, h => h
  | n + 1, _, _, _, h => ⟨h.1, fun i hi => wpOp_mono (fun a' w' h' => ⟨fun k k' => hS _ (h'.1 k k'), h'.2.1, wpAnyT_less hS n _ a' w' h'.2.2⟩) (h.2 i hi)⟩

theorem mv_at {i : Nat} (h : mv ops i = true) : ∃ o x, ops[i]? = some o ∧ (o.op = .move x ∨ o.op = .assign x) := by
  unfold mv at h
  split at h
  · rename_i o ho
    split at h
    · exact ⟨o, _, ho, .inl (by assumption)⟩
    · exact ⟨o, _, ho, .inr (by assumption)⟩
    · cases h
  · cases h
theorem mv_run {o : Oper} {x : Operand} (h : o.op = .move x ∨ o.op = .assign x) (ρ : Operand → Value) (w : World) : (execOp ρ o).run P w = .ok (.value (ρ x)) w := by
  rcases h with h | h <;> simp [execOp, h]
theorem mv_same {i : Nat} {K : Act → World → Prop} {a : Act} {w : World} (h : wpOp P ops Q i K a w) : wpOp P ops Q i (fun a' w' => (mv ops i = true → w' = w) ∧ K a' w') a w := by
  by_cases hm : mv ops i = true
  · obtain ⟨o, x, ho, hx⟩ := mv_at hm
    unfold wpOp at h ⊢
    simp only [ho] at h ⊢
    split
    · rename_i hw
      rw [if_pos hw] at h
      rcases h with h | h
      · left
        unfold Oper.wp at h ⊢
        rw [mv_run hx] at h ⊢
        exact ⟨fun _ => rfl, h⟩
      · exact .inr h
    · rename_i hw
      rw [if_neg hw] at h
      exact ⟨fun _ => by first | rfl | trivial, h⟩
  · exact wpOp_mono (fun a' w' h => ⟨fun h' => absurd h' hm, h⟩) h

/-- Those that can't come up while i has not: each waits for i, or for one of them. -/
def waitOk (ops : Array Oper) (i : Nat) (D : List Nat) : Bool :=
  D.all fun j => match ops[j]? with
    | some o => o.after.any fun e => Region.binds .any e && (e.on == i || D.contains e.on)
    | none => false
theorem waitOk_at {i j : Nat} {D : List Nat} (h : waitOk ops i D = true) (hj : j ∈ D) : ∃ o, ops[j]? = some o ∧ ∃ e ∈ o.after, Region.binds .any e = true ∧ (e.on = i ∨ e.on ∈ D) := by
  have h1 := List.all_eq_true.1 h j hj
  split at h1
  · rename_i o ho
    obtain ⟨e, he, hb⟩ := Array.any_eq_true'.1 h1
    simp only [Bool.and_eq_true, Bool.or_eq_true, beq_iff_eq, List.contains_iff_mem] at hb
    exact ⟨o, ho, e, he, hb.1, hb.2⟩
  · cases h1
theorem wait_no {i j : Nat} {D : List Nat} {l : Array Bool} (h : waitOk ops i D = true) (hu : ∀ k ∈ D, l.getD k true = false) (hi : l.getD i true = false) (hj : j ∈ D) : j ∉ Region.ready .any ops l := by
  intro hr
  obtain ⟨o, ho, e, he, hb, hon⟩ := waitOk_at h hj
  obtain ⟨_, o', ho', hall⟩ := mem_ready.1 hr
  obtain rfl : o' = o := Option.some.inj (ho'.symm.trans ho)
  have h2 := hall e he hb
  rcases hon with rfl | hon
  · rw [getD_both hi] at h2; cases h2
  · rw [getD_both (hu _ hon)] at h2; cases h2

/-- A reader that the tail waits for, or a copy, may be taken first. -/
theorem takeT {i : Nat} {oi : Oper} {v : Value} {D : List Nat} (hi : ops[i]? = some oi) (hsel : Region.noSelect ops = true) (hQ : ∀ c a w, Q (.panic c) (a.put oi.dst v) w → Q (.panic c) a w)
    (hD : mv ops i = true ∨ (waitOk ops i D = true ∧ ∀ j ∈ T, j ∈ D)) : ∀ (n : Nat) (l : Array Bool) (a : Act) (w : World),
      (∀ j oj, ops[j]? = some oj → j ≠ i → l.getD j true = false → (∀ e ∈ oj.after, Region.binds .any e = true → e.on ≠ i) → oi.apart ops oj = true) → (mv ops i = true ∨ ∀ k ∈ D, l.getD k true = false) →
      i ∈ Region.ready .any ops l → YieldsIf P ops (fun w' => mv ops i = true ∨ S w') oi v a → (mv ops i = true ∨ S w) → wpAnyT P ops Q S T n (l.setIfInBounds i true) (a.put oi.dst v) w → wpAnyT P ops Q S T (n + 1) l a w
  | 0, l, a, w, _, _, hr, hy, hS, H => by
    refine ⟨fun h => absurd (h ▸ hr) (by simp), fun j hj => ?_⟩
    by_cases e : j = i
    · subst e; exact hy.wpOp hi hS ⟨fun _ h => hS.resolve_left (by simp [h]), fun _ => rfl, H⟩
    · have := ready_mono hj e
      rw [H.1] at this
      cases this
  | n + 1, l, a, w, hf, hu, hr, hy, hS, H => by
    refine ⟨fun h => absurd (h ▸ hr) (by simp), fun j hj => ?_⟩
    by_cases e : j = i
    · subst e; exact hy.wpOp hi hS ⟨fun _ h => hS.resolve_left (by simp [h]), fun _ => rfl, H⟩
    · have hiu := (mem_ready.1 hr).1
      have hjD : mv ops i = true ∨ j ∉ D := by
        rcases hD with h | ⟨h, _⟩
        · exact .inl h
        · rcases hu with h' | h'
          · exact .inl h'
          · exact .inr fun hj' => wait_no h h' hiu hj' hj
      obtain ⟨hju, oj, hoj, hall⟩ := mem_ready.1 hj
      have hno : ∀ e ∈ oj.after, Region.binds .any e = true → e.on ≠ i := fun e he hb h => by
        have := hall e he hb
        rw [h, getD_both hiu] at this
        cases this
      have h2 := wpOp_putIf hoj (hf j oj hoj e hju hno) (fun cs b => Region.noSelect_spec hsel i oi cs b hi) (fun cs b => Region.noSelect_spec hsel j oj cs b hoj) hQ hy (H.2 j (ready_mono hj e))
      refine wpOp_mono (fun a' w' h3 => ⟨h3.2.1, h3.2.2.1, takeT hi hsel hQ hD n _ a' w' (fun k ok hk hki hku hkn => hf k ok hk hki ?_ hkn) ?_ (ready_mono hr (Ne.symm e)) h3.1 ?_ ?_⟩) h2
      · by_cases h : j = k
        · subst h; exact hju
        · rw [getD_set_ne true h] at hku; exact hku
      · rcases hjD with h | h
        · exact .inl h
        · exact hu.imp id fun hu k hk => by rw [getD_set_ne true (fun h' => h (by rw [h']; exact hk))]; exact hu k hk
      · rcases hD with h | ⟨_, h⟩
        · exact .inl h
        · rcases hjD with h' | h'
          · exact .inl h'
          · rcases hS with hS | hS
            · exact .inl hS
            · right
              by_cases hm : mv ops j = true
              · rw [h3.2.2.1 hm]; exact hS
              · exact h3.2.1 (fun h4 => h' (h j h4)) (by simpa using hm)
      · rw [Array.setIfInBounds_comm _ _ e]; exact h3.2.2.2

/-- Who waits for i, among those that have not come up. -/
def dset (ops : Array Oper) (l : Array Bool) (i : Nat) : List Nat :=
  (List.range ops.size).foldl (fun D j => if l.getD j true == false && (match ops[j]? with
    | some o => o.after.any fun e => Region.binds .any e && (e.on == i || D.contains e.on)
    | none => false) then j :: D else D) []

def behindT (ops : Array Oper) (l : Array Bool) (i : Nat) (T D : List Nat) : Bool := waitOk ops i D && (D.all (fun k => l.getD k true == false) && T.all fun t => D.contains t)

def segT (ops : Array Oper) (T : List Nat) : Array Bool → List Nat → Bool
  | _, [] => true
  | l, i :: r => (Region.ready .any ops l).contains i && (Region.free .any ops l i && (((ops[i]?).map fun o => isVal o.op).getD false && ((mv ops i || behindT ops l i T (dset ops l i)) && segT ops T (l.setIfInBounds i true) r)))

def seqT (ops : Array Oper) : Array Bool → List Nat → Bool
  | l, [] => (Region.ready .any ops l).isEmpty
  | l, i :: r => Region.ready .any ops l == [i] && ((ops[i]?).isSome && seqT ops (l.setIfInBounds i true) r)

def planT (ops : Array Oper) (last T : List Nat) : Array Bool → List (List Nat × Nat) → Bool
  | l, [] => segT ops T l last && seqT ops (mark l last) T
  | l, (rs, i) :: more => segT ops T l rs && (Region.ready .any ops (mark l rs) == [i] && !mv ops i && planT ops last T ((mark l rs).setIfInBounds i true) more)

def planTLen (last T : List Nat) : List (List Nat × Nat) → Nat
  | [] => T.length + last.length
  | (rs, _) :: more => 1 + planTLen last T more + rs.length

def wpT (P : Program) (ops : Array Oper) (Q : Exit → Act → World → Prop) (last T : List Nat) : List (List Nat × Nat) → Nat → Act → World → Prop
  | [], B, a, w => wpQuiet P ops (AfterB B w) (fun a' => wpList P ops Q (pick ops T) a' w) (pick ops last) a
  | (rs, i) :: more, B, a, w => wpQuiet P ops (AfterB B w) (fun a' => wpOp P ops Q i (fun a'' w'' => Below B w w'' ∧ ∃ B', B ≤ B' ∧ wpT P ops Q last T more B' a'' w'') a' w) (pick ops rs) a

theorem seqT_any (hsub : ∀ j ∈ T, j ∈ T) : ∀ (t : List Nat) (l : Array Bool) (a : Act) (w : World), (∀ j ∈ t, j ∈ T) → seqT ops l t = true → wpList P ops Q (pick ops t) a w → wpAnyT P ops Q S T t.length l a w
  | [], l, a, w, _, hc, h => ⟨by simpa [seqT] using hc, h⟩
  | i :: r, l, a, w, ht, hc, h => by
    simp only [seqT, Bool.and_eq_true, beq_iff_eq, Option.isSome_iff_exists] at hc
    obtain ⟨h1, ⟨o, ho⟩, h3⟩ := hc
    simp only [pick, ho] at h
    refine ⟨fun h0 => (by rw [h1] at h0; cases h0), fun j hj => ?_⟩
    rw [h1] at hj
    obtain rfl : j = i := by simpa using hj
    have hw : wpOp P ops Q j (wpList P ops Q (pick ops r)) a w := by unfold wpOp; simp only [ho]; exact h
    exact wpOp_mono (fun a' w' h' => ⟨fun hn => absurd (ht j (by simp)) hn, h'.1, seqT_any hsub r _ a' w' (fun k hk => ht k (by simp [hk])) h3 h'.2⟩) (mv_same hw)

theorem segT_any (hsel : Region.noSelect ops = true) (hQ : ∀ c a t v w, Q (.panic c) (Act.put a (some t) v) w → Q (.panic c) a w) (B : Nat) (w : World) (K : Act → Prop) (n : Nat) :
    ∀ (rs : List Nat) (l : Array Bool) (a : Act), segT ops T l rs = true → wpQuiet P ops (AfterB B w) K (pick ops rs) a →
      (∀ a', K a' → wpAnyT P ops Q (Below B w) T n (mark l rs) a' w) → wpAnyT P ops Q (Below B w) T (n + rs.length) l a w
  | [], l, a, _, h, hk => hk a h
  | i :: r, l, a, hc, h, hk => by
    simp only [segT, Bool.and_eq_true] at hc
    obtain ⟨h1, h2, h3, h5, h4⟩ := hc
    simp only [behindT, Bool.and_eq_true, Bool.or_eq_true] at h5
    cases ho : ops[i]? with
    | none => simp [ho] at h3
    | some o =>
      simp only [ho, Option.map_some, Option.getD_some] at h3
      simp only [pick, ho] at h
      have step : ∃ v, YieldsIf P ops (Below B w) o v a ∧ wpQuiet P ops (AfterB B w) K (pick ops r) (a.put o.dst v) := by
        unfold wpQuiet at h
        by_cases hw : Region.wanted o (yielded ops a.tmps) = true
        · rw [if_pos hw] at h
          obtain ⟨v, hv, hn⟩ := h
          refine ⟨v, .inl ⟨hw, fun w' hw' => ?_⟩, hn⟩
          have hq := hv w' ⟨⟨w', hw'⟩, rfl⟩
          unfold Oper.quietAt at hq
          generalize hr : (execOp a.eval o).run P w' = res at hq
          cases res with
          | ok m w1 =>
            obtain ⟨x, rfl⟩ := val_value h3 hr
            simp only [Oper.quietUpon] at hq
            rw [hq.1, hq.2]
          | halt x w1 => simp only [Oper.quietUpon] at hq
        · rw [if_neg hw] at h
          exact ⟨undef, .inr ⟨by simpa using hw, rfl⟩, h⟩
      obtain ⟨v, hy, hn⟩ := step
      have ih := segT_any hsel hQ B w K n r (l.setIfInBounds i true) (a.put o.dst v) h4 hn hk
      have hQ' : ∀ c a w, Q (.panic c) (a.put o.dst v) w → Q (.panic c) a w := fun c a' w' hh => by
        cases hd : o.dst with
        | none => rw [hd] at hh; exact hh
        | some t => rw [hd] at hh; exact hQ c a' t v w' hh
      have hy' : YieldsIf P ops (fun w' => mv ops i = true ∨ Below B w w') o v a := by
        rcases hy with ⟨hw, hv⟩ | hy
        · refine .inl ⟨hw, fun w' hw' => ?_⟩
          rcases hw' with hw' | hw'
          · obtain ⟨o', x, ho', hx⟩ := mv_at hw'
            obtain rfl : o' = o := Option.some.inj (ho'.symm.trans ho)
            have e := hv w (Below.refl _ _)
            rw [mv_run hx] at e ⊢
            injection e with e1 e2
            injection e1 with e1
            rw [e1]
          · exact hv w' hw'
        · exact .inr hy
      have := takeT (Q := Q) (S := Below B w) (T := T) ho hsel hQ' (h5.imp id fun g => ⟨g.1, fun j hj => by have := List.all_eq_true.1 g.2.2 j hj; simpa using this⟩) (n + r.length) l a w (Region.free_spec ho h2) (h5.imp id fun g k hk => by have := List.all_eq_true.1 g.2.1 k hk; simpa using this) (by simpa using h1) hy' (.inr (Below.refl _ _)) ih
      simpa [Nat.add_assoc] using this

theorem planT_any (hsel : Region.noSelect ops = true) (hQ : ∀ c a t v w, Q (.panic c) (Act.put a (some t) v) w → Q (.panic c) a w) (last : List Nat) :
    ∀ (p : List (List Nat × Nat)) (l : Array Bool) (B : Nat) (a : Act) (w : World), planT ops last T l p = true → wpT P ops Q last T p B a w → wpAnyT P ops Q (Below B w) T (planTLen last T p) l a w
  | [], l, B, a, w, hc, h => by
    simp only [planT, Bool.and_eq_true] at hc
    exact segT_any hsel hQ B w _ T.length last l a hc.1 h (fun a' ha => seqT_any (fun _ h => h) T _ a' w (fun _ h => h) hc.2 ha)
  | (rs, i) :: more, l, B, a, w, hc, h => by
    simp only [planT, Bool.and_eq_true, beq_iff_eq] at hc
    obtain ⟨h1, ⟨h2, h6⟩, h3⟩ := hc
    refine segT_any hsel hQ B w _ (1 + planTLen last T more) rs l a h1 h (fun a' ha => ?_)
    rw [Nat.add_comm]
    refine ⟨fun h0 => (by rw [h2] at h0; cases h0), fun j hj => ?_⟩
    rw [h2] at hj
    obtain rfl : j = i := by simpa using hj
    refine wpOp_mono (fun a'' w'' hh => ⟨fun _ _ => hh.1, fun hm => by simp [hm] at h6, ?_⟩) ha
    obtain ⟨hb, B', hB, hm⟩ := hh
    exact wpAnyT_less (fun w3 h4 => hb.trans (h4.mono hB)) _ _ _ _ (planT_any hsel hQ last more _ B' a'' w'' h3 hm)

/-- The region, by one order. -/
theorem wp_region_tail {id : Nat} {a : Act} {w : World} (B : Nat) (p : List (List Nat × Nat)) (last T : List Nat) (hm : P.follows .mixedOrders = true) (hsel : Region.noSelect ops = true)
    (hc : (planT ops last T (Array.replicate ops.size false) p && planTLen last T p == ops.size) = true) (hQ : ∀ c a t v w, Q (.panic c) (Act.put a (some t) v) w → Q (.panic c) a w)
    (h : wpT P ops Q last T p B a w.drew) : (Code.region id ops true).wp P Q a w := by
  simp only [Bool.and_eq_true, beq_iff_eq] at hc
  have := planT_any hsel hQ last p _ B a w.drew hc.1 h
  rw [hc.2] at this
  exact wp_region_any hm (wpAnyT_any _ _ _ _ this)

theorem tail_cons {rs : List Nat} {i : Nat} {more : List (List Nat × Nat)} {last : List Nat} {B : Nat} {a : Act} {w : World} {l : List Oper} (hl : pick ops rs = l)
    (h : wpQuiet P ops (AfterB B w) (fun a' => wpOp P ops Q i (fun a'' w'' => Below B w w'' ∧ ∃ B', B ≤ B' ∧ wpT P ops Q last T more B' a'' w'') a' w) l a) : wpT P ops Q last T ((rs, i) :: more) B a w := by
  subst hl; exact h
theorem tail_last {last : List Nat} {B : Nat} {a : Act} {w : World} {l t : List Oper} (hl : pick ops last = l) (ht : pick ops T = t)
    (h : wpQuiet P ops (AfterB B w) (fun a' => wpList P ops Q t a' w) l a) : wpT P ops Q last T [] B a w := by
  subst hl ht; exact h

/-- A call of a Go function, by its contract. -/
theorem tail_call {i B : Nat} {dst : Option Tmp} {f : FuncId} {args : Array Operand} {tys : Array TypeId} {ty : TypeId} {pos : String} {after : Array Edge} {guard : Option (Nat × Bool)} {a : Act} {w : World} {K : Nat → Act → World → Prop}
    (hf : ∀ (xs : Array Value) (w : World), (callFunc f xs).run P w = .ok (.enter f xs) w)
    (ho : ops[i]? = some { dst := dst, op := .call { callee := .value (.func f), args := args, argTypes := tys }, type := ty, pos := pos, after := after, guard := guard })
    (hw : Region.wanted { dst := dst, op := .call { callee := .value (.func f), args := args, argTypes := tys }, type := ty, pos := pos, after := after, guard := guard } (yielded ops a.tmps) = true)
    {vs : Array Value} (hvl : args.toList.map a.eval = vs.toList)
    {R : Value → World → Prop} (hc : Calls P f vs w (fun e w' => ∃ v, e = .returned v ∧ Below B w w' ∧ R v w')) (B' : Nat) (hB : B ≤ B') (hk : ∀ v w', Below B w w' → R v w' → K B' (a.put dst v) w') :
    wpOp P ops Q i (fun a'' w'' => Below B w w'' ∧ ∃ B', B ≤ B' ∧ K B' a'' w'') a w := by
  unfold wpOp
  simp only [ho]
  rw [if_pos hw]
  refine .inl ?_
  have hvs : args.map a.eval = vs := Array.ext' (by simpa using hvl)
  subst hvs
  unfold Oper.wp
  rw [execOp_call_go, hf]
  simp only [Oper.upon, Array.empty_append, Array.append_empty]
  refine hc.mono fun e w' hh => ?_
  obtain ⟨v, rfl, h1, h2⟩ := hh
  exact ⟨h1, B', hB, hk v w' h1 h2⟩

/-- The same, the next bound chosen behind the call. -/
theorem tail_call2 {i B : Nat} {dst : Option Tmp} {f : FuncId} {args : Array Operand} {tys : Array TypeId} {ty : TypeId} {pos : String} {after : Array Edge} {guard : Option (Nat × Bool)} {a : Act} {w : World} {K : Nat → Act → World → Prop}
    (hf : ∀ (xs : Array Value) (w : World), (callFunc f xs).run P w = .ok (.enter f xs) w)
    (ho : ops[i]? = some { dst := dst, op := .call { callee := .value (.func f), args := args, argTypes := tys }, type := ty, pos := pos, after := after, guard := guard })
    (hw : Region.wanted { dst := dst, op := .call { callee := .value (.func f), args := args, argTypes := tys }, type := ty, pos := pos, after := after, guard := guard } (yielded ops a.tmps) = true)
    {vs : Array Value} (hvl : args.toList.map a.eval = vs.toList)
    {R : Value → World → Prop} (hc : Calls P f vs w (fun e w' => ∃ v, e = .returned v ∧ Below B w w' ∧ R v w')) (hk : ∀ v w', Below B w w' → R v w' → ∃ B', B ≤ B' ∧ K B' (a.put dst v) w') :
    wpOp P ops Q i (fun a'' w'' => Below B w w'' ∧ ∃ B', B ≤ B' ∧ K B' a'' w'') a w := by
  unfold wpOp
  simp only [ho]
  rw [if_pos hw]
  refine .inl ?_
  have hvs : args.map a.eval = vs := Array.ext' (by simpa using hvl)
  subst hvs
  unfold Oper.wp
  rw [execOp_call_go, hf]
  simp only [Oper.upon, Array.empty_append, Array.append_empty]
  refine hc.mono fun e w' hh => ?_
  obtain ⟨v, rfl, h1, h2⟩ := hh
  exact ⟨h1, hk v w' h1 h2⟩

theorem bslice_run {o : Oper} {a : Act} {w w1 : World} {v : Value} {t : TypeId} {len : Nat} {parts : Array (Nat × Operand)} {ps : Array (Nat × Value)} (ho : o.op = .buildSlice t len parts)
    (hp : parts.toList.map (fun p => (p.1, a.eval p.2)) = ps.toList) (hr : (Instr.buildSlice t len ps).run P w = .ok v w1) : (execOp a.eval o).run P w = .ok (.value v) w1 := by
  have e : parts.map (fun (i, x) => (i, a.eval x)) = ps := Array.ext' (by simpa using hp)
  unfold execOp
  simp only [ho]
  rw [e, Sem.run_bind, hr]
  rfl

/-- An operation that yields a value, its temporary named. -/
theorem tail_val2 {i B : Nat} {o : Oper} {a : Act} {w w1 : World} {v : Value} {K : Act → World → Prop} (d : Option Tmp) (ho : ops[i]? = some o) (hd : o.dst = d) (hw : Region.wanted o (yielded ops a.tmps) = true)
    (hr : (execOp a.eval o).run P w = .ok (.value v) w1) (hb : Below B w w1) (hk : K (a.put d v) w1) : wpOp P ops Q i (fun a'' w'' => Below B w w'' ∧ K a'' w'') a w := by
  subst hd
  unfold wpOp
  simp only [ho]
  rw [if_pos hw]
  refine .inl ?_
  unfold Oper.wp
  rw [hr]
  exact ⟨hb, hk⟩

end

end Go.Proofs.Ytbemaoncakcnjaa
