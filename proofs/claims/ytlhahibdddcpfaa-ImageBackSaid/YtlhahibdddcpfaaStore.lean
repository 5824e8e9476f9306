/- The contracts of an arena's calls: Store, Load, and of slices.Clone. -/
import Derived.Test.YtlhahibdddcpfaaGrow
import Derived.Test.YtlhahibdddcpfaaConv
import Derived.Test.YtlhahibdddcpfaaNum
namespace Go.Proofs.Ytlhahibdddcpfaa
open Go.RowKit

/-- bs with cs laid over it from place off on. -/
def lay (bs : List UInt8) (off : Nat) (cs : List UInt8) : List UInt8 := bs.take off ++ (cs ++ bs.drop (off + cs.length))
theorem lay_length (bs : List UInt8) (off : Nat) (cs : List UInt8) (h : off + cs.length ≤ bs.length) : (lay bs off cs).length = bs.length := by
  simp [lay]; omega
theorem lay_nil (bs : List UInt8) (off : Nat) : lay bs off [] = bs := by simp [lay]

/-- A row of the call's own. -/
def NewRow (bs : List UInt8) (w : World) (e : Ending) (w' : World) : Prop :=
  ∃ A' c', e = .returned (.slice A' bs.length c') ∧ w'.ownsRow w.heap.size 5 1 (.slice A' bs.length c') bs.length (bs.map bv) ∧ Below w.heap.size w w'
/-- The same beside an error that is none. -/
def Told (bs : List UInt8) (w : World) (e : Ending) (w' : World) : Prop :=
  ∃ A' c', e = .returned (.tuple #[.slice A' bs.length c', .nilIface]) ∧ w'.ownsRow w.heap.size 5 1 (.slice A' bs.length c') bs.length (bs.map bv) ∧ Below w.heap.size w w'

theorem own_slice {w : World} {base n : Nat} {v : Value} {bs : List UInt8} (h : w.ownsRow base 5 1 v n (bs.map bv)) : n = bs.length ∧ ∃ A c, v = .slice A bs.length c := by
  have e : n = bs.length := by have := h.1; simp at this; exact this.symm
  subst e
  obtain ⟨A, c, e, _⟩ := own_any h
  exact ⟨rfl, A, c, e⟩

set_option maxRecDepth 100000 in
set_option maxHeartbeats 400000 in
theorem sclone_any (A : Option Addr) (c B : Nat) (bs : List UInt8) (w : World) (h : Rd w B A bs.length bs) (hB : B ≤ w.heap.size) (hA : A = none → c = 0) (hn : bs.length ≤ 1000000) :
    Calls Try.prog 47 #[.slice A bs.length c] w fun e w' => NewRow bs w e w' := by
  rcases A with _ | ad
  · obtain rfl := hA rfl
    have h0 : bs = [] := by
      rcases Nat.eq_zero_or_pos bs.length with h0 | h0
      · exact List.eq_nil_of_length_eq_zero h0
      · obtain ⟨_, _, e1, _⟩ := h.2 h0
        cases e1
    subst h0
    clear hA h
    have q : ∀ W : World, (binOp .eql 31 (.slice none 0 0) (.slice none 0 0)).run Try.prog W = .ok (.bool true) W := fun _ => rfl
    go_enter Try.func47, Try.ntmps47
    go_wp2
    go_ret
    exact ⟨none, 0, rfl, World.ownsRow_nil _ _ _ _, Below.refl _ _⟩
  · have own1 : (w.alloc (.cells #[] 5)).ownsRow w.heap.size 5 1 (.slice (some ⟨w.heap.size, 0, none⟩) 0 0) 0 (([] : List UInt8).map bv) := World.ownsRow_lit w _ 0 (Nat.le_refl _) (by unfold maxLen; omega) rfl
    have r1 := h.alloc hB (.cells #[] 5)
    clear hA
    have q : ∀ W : World, (binOp .eql 31 (.slice (some ad) bs.length c) (.slice none 0 0)).run Try.prog W = .ok (.bool false) W := fun _ => rfl
    go_enter Try.func47, Try.ntmps47
    go_wp2_with (first
      | (at_builtin; go_must (refine append_bytes rfl (.tmp 5) (.tmp 6) 31 5 rfl Try.underlying31 u8_inf w.heap.size (.slice (some ⟨w.heap.size, 0, none⟩) 0 0) 0 [] rfl own1 B (some ad) bs.length c bs rfl r1 (by simp) (by omega) (by simp) ?_); intro x2 w2 own2 hb2 gr2; have hb12 : Below w.heap.size w w2 := ((Below.refl _ _).alloc (Nat.le_refl _) _).trans hb2; have own3 : w2.ownsRow w.heap.size 5 1 x2 bs.length (bs.map bv) := (by simpa using own2); clear own1 own2 gr2 hb2 r1))
    go_ret
    obtain ⟨_, A', c', rfl⟩ := own_slice own3
    exact ⟨A', c', rfl, own3, hb12⟩

section
variable {w : World} {t : TypeId} {g base cap c : Nat} {A : Option Addr} {bs : List UInt8}
theorem over_take {α : Type} (b r : List α) (off : Nat) (cs : List α) (h : off + cs.length ≤ b.length) : ((b ++ r).take off ++ (cs ++ (b ++ r).drop (off + cs.length))).take b.length = b.take off ++ (cs ++ b.drop (off + cs.length)) := by
  have e1 : (b ++ r).take off = b.take off := List.take_append_of_le_length (by omega)
  rw [e1, List.drop_append_of_le_length h, ← List.append_assoc cs, ← List.append_assoc]
  exact List.take_left' (by simp; omega)

/-- Bytes laid over the arena's row. -/
theorem Ar.over (h : Ar w t g base cap A c bs) (ht : t ≠ 5) {h' : Nat} (hA : A = some ⟨h', 0, none⟩) {cur : Array Value} (hrow : w.heap[h']? = some (.cells cur 5 (0, 0))) (hsz : cur.size = c) (htake : cur.toList.take bs.length = bs.map bv) (off : Nat) (cs : List UInt8) (hfit : off + cs.length ≤ bs.length) :
    Became t g base cap A (lay bs off cs) w (w.setRow h' (cur.toList.take off ++ (cs.map bv ++ cur.toList.drop (off + (cs.map bv).length))).toArray) := by
  have hle := h.le
  have hlen := lay_length bs off cs hfit
  subst hA
  have hne : h' ≠ g := own_ne h.own h.obj ht rfl
  obtain ⟨_, _, _, hr', _, hmax, _⟩ := h.row rfl
  refine ⟨some ⟨h', 0, none⟩, c, ⟨?_, ?_, .inr ⟨h', c, _, rfl, Nat.zero_le _, setRow_heap w h' _ _ _ _ hrow, by omega, hmax, ?_, ?_⟩⟩, ⟨rfl, rfl, rfl, by simp [World.setRow], fun k _ hk => setRow_other w h' k _ (fun e => hk (.inr ⟨_, rfl, e⟩))⟩, .inl rfl⟩
  · rw [setRow_other w h' g _ (Ne.symm hne), hlen]
    exact h.obj
  · simp
  · simp; omega
  · rw [Nat.mul_one, hlen, List.toList_toArray]
    have e1 : cur.toList = bs.map bv ++ cur.toList.drop bs.length := by rw [← htake, List.take_append_drop]
    have e2 : bs.length = (bs.map bv).length := by simp
    rw [e1, e2]
    rw [over_take (bs.map bv) _ off (cs.map bv) (by simpa using hfit)]
    simp [lay]

end

end Go.Proofs.Ytlhahibdddcpfaa
