/- The contracts of an arena's calls: Store, Load, and of slices.Clone. -/
import Derived.Test.YtodbakpjibcmiaaGrow
import Derived.Test.YtodbakpjibcmiaaConv
import Derived.Test.YtodbakpjibcmiaaNum
namespace Go.Proofs.Ytodbakpjibcmiaa
open Go.RowKit

/-- bs with cs laid over it from place off on. -/
def lay (bs : List UInt8) (off : Nat) (cs : List UInt8) : List UInt8 := bs.take off ++ (cs ++ bs.drop (off + cs.length))
theorem lay_length (bs : List UInt8) (off : Nat) (cs : List UInt8) (h : off + cs.length ≤ bs.length) : (lay bs off cs).length = bs.length := by
  simp [lay]; omega
theorem lay_nil (bs : List UInt8) (off : Nat) : lay bs off [] = bs := by simp [lay]

/-- A row of the call's own. -/
def NewRow (bs : List UInt8) (w : World) (e : Ending) (w' : World) : Prop :=
  ∃ A' c', e = .returned (.slice A' bs.length c') ∧ w'.ownsRow w.heap.size 5 1 (.slice A' bs.length c') bs.length (bs.map bv) ∧ Below w.heap.size w w'
/-- The same beside an error that is none. -/
def Told (bs : List UInt8) (w : World) (e : Ending) (w' : World) : Prop :=
  ∃ A' c', e = .returned (.tuple #[.slice A' bs.length c', .nilIface]) ∧ w'.ownsRow w.heap.size 5 1 (.slice A' bs.length c') bs.length (bs.map bv) ∧ Below w.heap.size w w'

theorem own_slice {w : World} {base n : Nat} {v : Value} {bs : List UInt8} (h : w.ownsRow base 5 1 v n (bs.map bv)) : n = bs.length ∧ ∃ A c, v = .slice A bs.length c := by
  have e : n = bs.length := by have := h.1; simp at this; exact this.symm
  subst e
  obtain ⟨A, c, e, _⟩ := own_any h
  exact ⟨rfl, A, c, e⟩

set_option maxRecDepth 100000 in
set_option maxHeartbeats 400000 in
theorem sclone_any (A : Option Addr) (c B : Nat) (bs : List UInt8) (w : World) (h : Rd w B A bs.length bs) (hB : B ≤ w.heap.size) (hA : A = none → c = 0) (hn : bs.length ≤ 1000000) :
    Calls Try.prog 44 #[.slice A bs.length c] w fun e w' => NewRow bs w e w' := by
  rcases A with _ | ad
  · obtain rfl := hA rfl
    have h0 : bs = [] := by
      rcases Nat.eq_zero_or_pos bs.length with h0 | h0
      · exact List.eq_nil_of_length_eq_zero h0
      · obtain ⟨_, _, e1, _⟩ := h.2 h0
        cases e1
    subst h0
    clear hA h
    have q : ∀ W : World, (binOp .eql 23 (.slice none 0 0) (.slice none 0 0)).run Try.prog W = .ok (.bool true) W := fun _ => rfl
    go_enter Try.func44, Try.ntmps44
    go_wp2
    go_ret
    exact ⟨none, 0, rfl, World.ownsRow_nil _ _ _ _, Below.refl _ _⟩
  · have own1 : (w.alloc (.cells #[] 5)).ownsRow w.heap.size 5 1 (.slice (some ⟨w.heap.size, 0, none⟩) 0 0) 0 (([] : List UInt8).map bv) := World.ownsRow_lit w _ 0 (Nat.le_refl _) (by unfold maxLen; omega) rfl
    have r1 := h.alloc hB (.cells #[] 5)
    clear hA
    have q : ∀ W : World, (binOp .eql 23 (.slice (some ad) bs.length c) (.slice none 0 0)).run Try.prog W = .ok (.bool false) W := fun _ => rfl
    go_enter Try.func44, Try.ntmps44
    go_wp2_with (first
      | (at_builtin; go_must (refine append_bytes rfl (.tmp 5) (.tmp 6) 23 5 rfl Try.underlying23 u8_inf w.heap.size (.slice (some ⟨w.heap.size, 0, none⟩) 0 0) 0 [] rfl own1 B (some ad) bs.length c bs rfl r1 (by simp) (by omega) (by simp) ?_); intro x2 w2 own2 hb2 gr2; have hb12 : Below w.heap.size w w2 := ((Below.refl _ _).alloc (Nat.le_refl _) _).trans hb2; have own3 : w2.ownsRow w.heap.size 5 1 x2 bs.length (bs.map bv) := (by simpa using own2); clear own1 own2 gr2 hb2 r1))
    go_ret
    obtain ⟨_, A', c', rfl⟩ := own_slice own3
    exact ⟨A', c', rfl, own3, hb12⟩

section
variable {w : World} {t : TypeId} {g base cap c : Nat} {A : Option Addr} {bs : List UInt8}
theorem place_at (h : Ar w 73 g base cap A c bs) (hl : bs.length ≤ 1000000) (x n d : Nat) (hx : x < 18446744073709551616) (h1 : base ≤ x) (hd : x - base = d) (h2 : d + n ≤ bs.length) :
    Calls Try.prog 38 #[.pointer (some ⟨g, 0, none⟩), .int .u64 (x : Int), .int .u64 (n : Int)] w fun e w' => e = .returned (.tuple #[.int .u64 (d : Int), .bool true]) ∧ w = w' := by
  subst hd
  exact place_yes h hl x n hx h1 h2

set_option maxRecDepth 100000 in
set_option maxHeartbeats 400000 in
theorem load_no (h : Ar w 73 g base cap A c bs) (hl : bs.length ≤ 1000000) (x n : Nat) (hx : x < 18446744073709551616) (h2 : base ≤ x → bs.length < x - base + n) :
    Calls Try.prog 36 #[.pointer (some ⟨g, 0, none⟩), .int .u64 (x : Int), .int .u64 (n : Int)] w fun e w' => e = .returned (.tuple #[.slice none 0 0, .iface 56 (.int .i64 2)]) ∧ w = w' := by
  have HP := Lib.hid (place_no h hl x n hx h2)
  clear h2
  go_enter Try.func36, Try.ntmps36
  go_wp2_with fail
  refine HP.out.mono ?_
  rintro e w' ⟨rfl, rfl⟩
  go_wp2
  go_ret2
  exact ⟨rfl, rfl⟩

set_option maxRecDepth 100000 in
set_option maxHeartbeats 1000000 in
theorem load_ok (h : Ar w 73 g base cap A c bs) (hl : bs.length ≤ 1000000) (x n d : Nat) (hx : x < 18446744073709551616) (h1 : base ≤ x) (hd : x - base = d) (h2 : d + n ≤ bs.length) :
    Calls Try.prog 36 #[.pointer (some ⟨g, 0, none⟩), .int .u64 (x : Int), .int .u64 (n : Int)] w fun e w' => Told ((bs.drop d).take n) w e w' := by
  have hp := place_at h hl x n d hx h1 hd h2
  have HP := Lib.hid hp
  clear hp hd
  have c2 := h.c2
  have hlen : ((bs.drop d).take n).length = n := by simp; omega
  have hle := h.le
  have hrd := h.reads
  obtain ⟨ys, hys⟩ : ∃ ys, (bs.drop d).take n = ys := ⟨_, rfl⟩
  rw [hys] at hlen ⊢
  rcases A with _ | ad
  · obtain ⟨rfl, rfl⟩ := h.none_
    obtain rfl : n = 0 := by simp at h2; omega
    obtain rfl : d = 0 := by simp at h2; omega
    obtain rfl : ys = [] := List.eq_nil_of_length_eq_zero hlen
    have HC := Lib.hid (sclone_any none 0 0 [] w Rd.nil_ (Nat.zero_le _) (fun _ => rfl) (by simp))
    clear hys hlen hle hrd h1 h2 hl hx
    go_enter Try.func36, Try.ntmps36
    go_wp2_with fail
    refine HP.out.mono ?_
    rintro e w' ⟨rfl, rfl⟩
    go_wp2_with fail
    refine HC.out.mono ?_
    rintro e w' ⟨A', c', rfl, ho, hb⟩
    go_wp2
    go_ret2
    exact ⟨A', c', rfl, ho, hb⟩
  · obtain ⟨h', rfl, cur, hrow, _, hmax, hsz, htake⟩ := h.row rfl
    unfold maxLen at hmax
    have hrs := hrd.sub d n h2
    rw [hys] at hrs
    clear hys hrd
    subst hlen
    have HROW := Lib.hid hrow
    clear hrow hsz htake
    have HC : Hid (Calls Try.prog 44 #[.slice (if c = d then some ⟨h', 0, none⟩ else some ⟨h', d, none⟩) ys.length (c - d)] w fun e w' => NewRow ys w e w') := by
      by_cases hdc : c = d
      · rw [if_pos hdc]
        exact sclone_any _ _ w.heap.size ys w ⟨rfl, fun hn => absurd hn (by omega)⟩ (Nat.le_refl _) (fun e => by cases e) (by omega)
      · rw [if_neg hdc]
        rw [Nat.zero_add] at hrs
        exact sclone_any _ _ w.heap.size ys w hrs (Nat.le_refl _) (fun e => by cases e) (by omega)
    clear HROW hrs
    by_cases hdc : c = d
    all_goals
      first | (rw [if_pos hdc, hdc, Nat.sub_self] at HC) | rw [if_neg hdc] at HC
      go_enter Try.func36, Try.ntmps36
      go_wp2_with fail
      refine HP.out.mono ?_
      rintro e w' ⟨rfl, rfl⟩
      go_wp2_with fail
      with_reducible refine HC.out.mono ?_
      rintro e w' ⟨A', c', rfl, ho, hb⟩
      go_wp2
      go_ret2
      exact ⟨A', c', rfl, ho, hb⟩

set_option maxRecDepth 100000 in
set_option maxHeartbeats 400000 in
theorem store_no (h : Ar w 73 g base cap A c bs) (hl : bs.length ≤ 1000000) (x n : Nat) (B : Option Addr) (k : Nat) (hx : x < 18446744073709551616) (hn : n ≤ 9223372036854775807) (h2 : base ≤ x → bs.length < x - base + n) :
    Calls Try.prog 22 #[.pointer (some ⟨g, 0, none⟩), .int .u64 (x : Int), .slice B n k] w fun e w' => e = .returned (.iface 56 (.int .i64 2)) ∧ w = w' := by
  have HP := Lib.hid (place_no h hl x n hx h2)
  clear h2
  go_enter Try.func22, Try.ntmps22
  go_wp2_with fail
  with_reducible refine HP.out.mono ?_
  rintro e w' ⟨rfl, rfl⟩
  go_wp2
  go_ret
  exact ⟨rfl, rfl⟩

theorem over_take {α : Type} (b r : List α) (off : Nat) (cs : List α) (h : off + cs.length ≤ b.length) : ((b ++ r).take off ++ (cs ++ (b ++ r).drop (off + cs.length))).take b.length = b.take off ++ (cs ++ b.drop (off + cs.length)) := by
  have e1 : (b ++ r).take off = b.take off := List.take_append_of_le_length (by omega)
  rw [e1, List.drop_append_of_le_length h, ← List.append_assoc cs, ← List.append_assoc]
  exact List.take_left' (by simp; omega)

/-- Bytes laid over the arena's row. -/
theorem Ar.over (h : Ar w t g base cap A c bs) (ht : t ≠ 5) {h' : Nat} (hA : A = some ⟨h', 0, none⟩) {cur : Array Value} (hrow : w.heap[h']? = some (.cells cur 5 (0, 0))) (hsz : cur.size = c) (htake : cur.toList.take bs.length = bs.map bv) (off : Nat) (cs : List UInt8) (hfit : off + cs.length ≤ bs.length) :
    Became t g base cap A (lay bs off cs) w (w.setRow h' (cur.toList.take off ++ (cs.map bv ++ cur.toList.drop (off + (cs.map bv).length))).toArray) := by
  have hle := h.le
  have hlen := lay_length bs off cs hfit
  subst hA
  have hne : h' ≠ g := own_ne h.own h.obj ht rfl
  obtain ⟨_, _, _, hr', _, hmax, _⟩ := h.row rfl
  refine ⟨some ⟨h', 0, none⟩, c, ⟨?_, ?_, .inr ⟨h', c, _, rfl, Nat.zero_le _, setRow_heap w h' _ _ _ _ hrow, by omega, hmax, ?_, ?_⟩⟩, ⟨rfl, rfl, rfl, by simp [World.setRow], fun k _ hk => setRow_other w h' k _ (fun e => hk (.inr ⟨_, rfl, e⟩))⟩, .inl rfl⟩
  · rw [setRow_other w h' g _ (Ne.symm hne), hlen]
    exact h.obj
  · simp
  · simp; omega
  · rw [Nat.mul_one, hlen, List.toList_toArray]
    have e1 : cur.toList = bs.map bv ++ cur.toList.drop bs.length := by rw [← htake, List.take_append_drop]
    have e2 : bs.length = (bs.map bv).length := by simp
    rw [e1, e2]
    rw [over_take (bs.map bv) _ off (cs.map bv) (by simpa using hfit)]
    simp [lay]

set_option maxRecDepth 100000 in
set_option maxHeartbeats 1000000 in
theorem store_ok (h : Ar w 73 g base cap A c bs) (hl : bs.length ≤ 1000000) (x d : Nat) (B : Option Addr) (k : Nat) (cs : List UInt8) (B0 : Nat) (hr : Rd w B0 B cs.length cs) (hx : x < 18446744073709551616) (h1 : base ≤ x) (hd : x - base = d) (h2 : d + cs.length ≤ bs.length) :
    Calls Try.prog 22 #[.pointer (some ⟨g, 0, none⟩), .int .u64 (x : Int), .slice B cs.length k] w fun e w' => e = .returned .nilIface ∧ Became 73 g base cap A (lay bs d cs) w w' := by
  have HP := Lib.hid (place_at h hl x cs.length d hx h1 hd h2)
  clear hd
  have c2 := h.c2
  have hle := h.le
  rcases Nat.eq_zero_or_pos cs.length with h0 | h0
  · obtain rfl : cs = [] := List.eq_nil_of_length_eq_zero h0
    rw [lay_nil]
    have HF : Hid (Became 73 g base cap A bs w w) := ⟨A, c, h, Tch.refl _ _, .inl rfl⟩
    simp only [List.length_nil] at HP h2 ⊢
    clear hr h0
    by_cases hdc : c = d
    all_goals
      go_enter Try.func22, Try.ntmps22
      go_wp2_with fail
      refine HP.out.mono ?_
      rintro e w' ⟨rfl, rfl⟩
      go_wp2_with (refine wpList_copy_nothing rfl (.tmp 26) (.tmp 27) 23 23 rfl 5 Try.underlying23 (by kernel_rfl) _ _ _ _ _ _ rfl rfl (by simp) ?_)
      go_ret
      exact ⟨rfl, HF.out⟩
  · rcases A with _ | ad
    · obtain ⟨rfl, _⟩ := h.none_
      rw [List.length_nil] at h2
      omega
    · obtain ⟨h', rfl, cur, hrow, _, hmax, hsz, htake⟩ := h.row rfl
      unfold maxLen at hmax
      obtain ⟨b, off, rfl, hb, hc⟩ := hr.2 h0
      have HF := Lib.hid (h.over (by decide) rfl hrow hsz htake d cs h2)
      have hfit : d + (cs.map bv).length ≤ cur.size := by simp; omega
      have HSRC := Lib.hid (rd_cells hr)
      have HN : Hid ((cs.map bv).length = Nat.min cs.length (bs.length - d)) := by
        show _ = _
        rw [List.length_map]
        exact (Nat.min_eq_left (by omega)).symm
      have hdc : ¬ c = d := by omega
      have HROW := Lib.hid hrow
      have HFIT := Lib.hid hfit
      clear hrow hsz htake hr hc hfit
      go_enter Try.func22, Try.ntmps22
      go_wp2_with fail
      with_reducible refine HP.out.mono ?_
      rintro e w' ⟨rfl, rfl⟩
      go_wp2_with (refine wpList_copy_own rfl (.tmp 26) (.tmp 27) 23 23 rfl 5 Try.underlying23 (by kernel_rfl) h' d (bs.length - d) (c - d) ⟨b, off, none⟩ cs.length k rfl rfl cur 5 HROW.out (cs.map bv) HN.out HSRC.out HFIT.out (bv_one cs) ?_)
      go_ret
      exact ⟨rfl, by simpa only [List.length_map] using HF.out⟩
end

end Go.Proofs.Ytodbakpjibcmiaa
