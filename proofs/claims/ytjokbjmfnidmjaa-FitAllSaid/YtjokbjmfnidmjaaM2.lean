/- Texts of mine, joined: Store, Copy, Help, HelpB, More, Tail, Ref1, Tag1. -/
import Derived.StillTailTactics
import Derived.StillTail
import Derived.Laws.BitsAllLaws
import Derived.Test.YtjokbjmfnidmjaaM1

/- The contracts of an arena's calls: Store, Load, and of slices.Clone. -/
namespace Go.Proofs.Ytjokbjmfnidmjaa
open Go.RowKit

/-- bs with cs laid over it from place off on. -/
def lay (bs : List UInt8) (off : Nat) (cs : List UInt8) : List UInt8 := bs.take off ++ (cs ++ bs.drop (off + cs.length))
theorem lay_length (bs : List UInt8) (off : Nat) (cs : List UInt8) (h : off + cs.length ≤ bs.length) : (lay bs off cs).length = bs.length := by
  simp [lay]; omega
theorem lay_nil (bs : List UInt8) (off : Nat) : lay bs off [] = bs := by simp [lay]

/-- A row of the call's own. -/
def NewRow (bs : List UInt8) (w : World) (e : Ending) (w' : World) : Prop :=
  ∃ A' c', e = .returned (.slice A' bs.length c') ∧ w'.ownsRow w.heap.size 5 1 (.slice A' bs.length c') bs.length (bs.map bv) ∧ Below w.heap.size w w'
/-- The same beside an error that is none. -/
def Told (bs : List UInt8) (w : World) (e : Ending) (w' : World) : Prop :=
  ∃ A' c', e = .returned (.tuple #[.slice A' bs.length c', .nilIface]) ∧ w'.ownsRow w.heap.size 5 1 (.slice A' bs.length c') bs.length (bs.map bv) ∧ Below w.heap.size w w'

theorem own_slice {w : World} {base n : Nat} {v : Value} {bs : List UInt8} (h : w.ownsRow base 5 1 v n (bs.map bv)) : n = bs.length ∧ ∃ A c, v = .slice A bs.length c := by
  have e : n = bs.length := by have := h.1; simp at this; exact this.symm
  subst e
  obtain ⟨A, c, e, _⟩ := own_any h
  exact ⟨rfl, A, c, e⟩

set_option maxRecDepth 100000 in
set_option maxHeartbeats 400000 in
theorem sclone_any (A : Option Addr) (c B : Nat) (bs : List UInt8) (w : World) (h : Rd w B A bs.length bs) (hB : B ≤ w.heap.size) (hA : A = none → c = 0) (hn : bs.length ≤ 1000000) :
    Calls Try.prog 64 #[.slice A bs.length c] w fun e w' => NewRow bs w e w' := by
  rcases A with _ | ad
  · obtain rfl := hA rfl
    have h0 : bs = [] := by
      rcases Nat.eq_zero_or_pos bs.length with h0 | h0
      · exact List.eq_nil_of_length_eq_zero h0
      · obtain ⟨_, _, e1, _⟩ := h.2 h0
        cases e1
    subst h0
    clear hA h
    have q : ∀ W : World, (binOp .eql 24 (.slice none 0 0) (.slice none 0 0)).run Try.prog W = .ok (.bool true) W := fun _ => rfl
    go_enter Try.func64, Try.ntmps64
    go_wp2
    go_ret
    exact ⟨none, 0, rfl, World.ownsRow_nil _ _ _ _, Below.refl _ _⟩
  · have own1 : (w.alloc (.cells #[] 5)).ownsRow w.heap.size 5 1 (.slice (some ⟨w.heap.size, 0, none⟩) 0 0) 0 (([] : List UInt8).map bv) := World.ownsRow_lit w _ 0 (Nat.le_refl _) (by unfold maxLen; omega) rfl
    have r1 := h.alloc hB (.cells #[] 5)
    clear hA
    have q : ∀ W : World, (binOp .eql 24 (.slice (some ad) bs.length c) (.slice none 0 0)).run Try.prog W = .ok (.bool false) W := fun _ => rfl
    go_enter Try.func64, Try.ntmps64
    go_wp2_with (first
      | (at_builtin; go_must (refine append_bytes rfl (.tmp 5) (.tmp 6) 24 5 rfl Try.underlying24 u8_inf w.heap.size (.slice (some ⟨w.heap.size, 0, none⟩) 0 0) 0 [] rfl own1 B (some ad) bs.length c bs rfl r1 (by simp) (by omega) (by simp) ?_); intro x2 w2 own2 hb2 gr2; have hb12 : Below w.heap.size w w2 := ((Below.refl _ _).alloc (Nat.le_refl _) _).trans hb2; have own3 : w2.ownsRow w.heap.size 5 1 x2 bs.length (bs.map bv) := (by simpa using own2); clear own1 own2 gr2 hb2 r1))
    go_ret
    obtain ⟨_, A', c', rfl⟩ := own_slice own3
    exact ⟨A', c', rfl, own3, hb12⟩

section
variable {w : World} {t : TypeId} {g base cap c : Nat} {A : Option Addr} {bs : List UInt8}
theorem place_at (h : Ar w 85 g base cap A c bs) (hl : bs.length ≤ 1000000) (x n d : Nat) (hx : x < 18446744073709551616) (h1 : base ≤ x) (hd : x - base = d) (h2 : d + n ≤ bs.length) :
    Calls Try.prog 48 #[.pointer (some ⟨g, 0, none⟩), .int .u64 (x : Int), .int .u64 (n : Int)] w fun e w' => e = .returned (.tuple #[.int .u64 (d : Int), .bool true]) ∧ w = w' := by
  subst hd
  exact place_yes h hl x n hx h1 h2

set_option maxRecDepth 100000 in
set_option maxHeartbeats 400000 in
theorem load_no (h : Ar w 85 g base cap A c bs) (hl : bs.length ≤ 1000000) (x n : Nat) (hx : x < 18446744073709551616) (h2 : base ≤ x → bs.length < x - base + n) :
    Calls Try.prog 34 #[.pointer (some ⟨g, 0, none⟩), .int .u64 (x : Int), .int .u64 (n : Int)] w fun e w' => e = .returned (.tuple #[.slice none 0 0, .iface 60 (.int .i64 2)]) ∧ w = w' := by
  have HP := Lib.hid (place_no h hl x n hx h2)
  clear h2
  go_enter Try.func34, Try.ntmps34
  go_wp2_with fail
  refine HP.out.mono ?_
  rintro e w' ⟨rfl, rfl⟩
  go_wp2
  go_ret2
  exact ⟨rfl, rfl⟩

set_option maxRecDepth 100000 in
set_option maxHeartbeats 1000000 in
theorem load_ok (h : Ar w 85 g base cap A c bs) (hl : bs.length ≤ 1000000) (x n d : Nat) (hx : x < 18446744073709551616) (h1 : base ≤ x) (hd : x - base = d) (h2 : d + n ≤ bs.length) :
    Calls Try.prog 34 #[.pointer (some ⟨g, 0, none⟩), .int .u64 (x : Int), .int .u64 (n : Int)] w fun e w' => Told ((bs.drop d).take n) w e w' := by
  have hp := place_at h hl x n d hx h1 hd h2
  have HP := Lib.hid hp
  clear hp hd
  have c2 := h.c2
  have hlen : ((bs.drop d).take n).length = n := by simp; omega
  have hle := h.le
  have hrd := h.reads
  obtain ⟨ys, hys⟩ : ∃ ys, (bs.drop d).take n = ys := ⟨_, rfl⟩
  rw [hys] at hlen ⊢
  rcases A with _ | ad
  · obtain ⟨rfl, rfl⟩ := h.none_
    obtain rfl : n = 0 := by simp at h2; omega
    obtain rfl : d = 0 := by simp at h2; omega
    obtain rfl : ys = [] := List.eq_nil_of_length_eq_zero hlen
    have HC := Lib.hid (sclone_any none 0 0 [] w Rd.nil_ (Nat.zero_le _) (fun _ => rfl) (by simp))
    clear hys hlen hle hrd h1 h2 hl hx
    go_enter Try.func34, Try.ntmps34
    go_wp2_with fail
    refine HP.out.mono ?_
    rintro e w' ⟨rfl, rfl⟩
    go_wp2_with fail
    refine HC.out.mono ?_
    rintro e w' ⟨A', c', rfl, ho, hb⟩
    go_wp2
    go_ret2
    exact ⟨A', c', rfl, ho, hb⟩
  · obtain ⟨h', rfl, cur, hrow, _, hmax, hsz, htake⟩ := h.row rfl
    unfold maxLen at hmax
    have hrs := hrd.sub d n h2
    rw [hys] at hrs
    clear hys hrd
    subst hlen
    have HROW := Lib.hid hrow
    clear hrow hsz htake
    have HC : Hid (Calls Try.prog 64 #[.slice (if c = d then some ⟨h', 0, none⟩ else some ⟨h', d, none⟩) ys.length (c - d)] w fun e w' => NewRow ys w e w') := by
      by_cases hdc : c = d
      · rw [if_pos hdc]
        exact sclone_any _ _ w.heap.size ys w ⟨rfl, fun hn => absurd hn (by omega)⟩ (Nat.le_refl _) (fun e => by cases e) (by omega)
      · rw [if_neg hdc]
        rw [Nat.zero_add] at hrs
        exact sclone_any _ _ w.heap.size ys w hrs (Nat.le_refl _) (fun e => by cases e) (by omega)
    clear HROW hrs
    by_cases hdc : c = d
    all_goals
      first | (rw [if_pos hdc, hdc, Nat.sub_self] at HC) | rw [if_neg hdc] at HC
      go_enter Try.func34, Try.ntmps34
      go_wp2_with fail
      refine HP.out.mono ?_
      rintro e w' ⟨rfl, rfl⟩
      go_wp2_with fail
      with_reducible refine HC.out.mono ?_
      rintro e w' ⟨A', c', rfl, ho, hb⟩
      go_wp2
      go_ret2
      exact ⟨A', c', rfl, ho, hb⟩

set_option maxRecDepth 100000 in
set_option maxHeartbeats 400000 in
theorem store_no (h : Ar w 85 g base cap A c bs) (hl : bs.length ≤ 1000000) (x n : Nat) (B : Option Addr) (k : Nat) (hx : x < 18446744073709551616) (hn : n ≤ 9223372036854775807) (h2 : base ≤ x → bs.length < x - base + n) :
    Calls Try.prog 23 #[.pointer (some ⟨g, 0, none⟩), .int .u64 (x : Int), .slice B n k] w fun e w' => e = .returned (.iface 60 (.int .i64 2)) ∧ w = w' := by
  have HP := Lib.hid (place_no h hl x n hx h2)
  clear h2
  go_enter Try.func23, Try.ntmps23
  go_wp2_with fail
  with_reducible refine HP.out.mono ?_
  rintro e w' ⟨rfl, rfl⟩
  go_wp2
  go_ret
  exact ⟨rfl, rfl⟩

theorem over_take {α : Type} (b r : List α) (off : Nat) (cs : List α) (h : off + cs.length ≤ b.length) : ((b ++ r).take off ++ (cs ++ (b ++ r).drop (off + cs.length))).take b.length = b.take off ++ (cs ++ b.drop (off + cs.length)) := by
  have e1 : (b ++ r).take off = b.take off := List.take_append_of_le_length (by omega)
  rw [e1, List.drop_append_of_le_length h, ← List.append_assoc cs, ← List.append_assoc]
  exact List.take_left' (by simp; omega)

/-- Bytes laid over the arena's row. -/
theorem Ar.over (h : Ar w t g base cap A c bs) (ht : t ≠ 5) {h' : Nat} (hA : A = some ⟨h', 0, none⟩) {cur : Array Value} (hrow : w.heap[h']? = some (.cells cur 5 (0, 0))) (hsz : cur.size = c) (htake : cur.toList.take bs.length = bs.map bv) (off : Nat) (cs : List UInt8) (hfit : off + cs.length ≤ bs.length) :
    Became t g base cap A (lay bs off cs) w (w.setRow h' (cur.toList.take off ++ (cs.map bv ++ cur.toList.drop (off + (cs.map bv).length))).toArray) := by
  have hle := h.le
  have hlen := lay_length bs off cs hfit
  subst hA
  have hne : h' ≠ g := own_ne h.own h.obj ht rfl
  obtain ⟨_, _, _, hr', _, hmax, _⟩ := h.row rfl
  refine ⟨some ⟨h', 0, none⟩, c, ⟨?_, ?_, .inr ⟨h', c, _, rfl, Nat.zero_le _, setRow_heap w h' _ _ _ _ hrow, by omega, hmax, ?_, ?_⟩⟩, ⟨rfl, rfl, rfl, by simp [World.setRow], fun k _ hk => setRow_other w h' k _ (fun e => hk (.inr ⟨_, rfl, e⟩))⟩, .inl rfl⟩
  · rw [setRow_other w h' g _ (Ne.symm hne), hlen]
    exact h.obj
  · simp
  · simp; omega
  · rw [Nat.mul_one, hlen, List.toList_toArray]
    have e1 : cur.toList = bs.map bv ++ cur.toList.drop bs.length := by rw [← htake, List.take_append_drop]
    have e2 : bs.length = (bs.map bv).length := by simp
    rw [e1, e2]
    rw [over_take (bs.map bv) _ off (cs.map bv) (by simpa using hfit)]
    simp [lay]

set_option maxRecDepth 100000 in
set_option maxHeartbeats 1000000 in
theorem store_ok (h : Ar w 85 g base cap A c bs) (hl : bs.length ≤ 1000000) (x d : Nat) (B : Option Addr) (k : Nat) (cs : List UInt8) (B0 : Nat) (hr : Rd w B0 B cs.length cs) (hx : x < 18446744073709551616) (h1 : base ≤ x) (hd : x - base = d) (h2 : d + cs.length ≤ bs.length) :
    Calls Try.prog 23 #[.pointer (some ⟨g, 0, none⟩), .int .u64 (x : Int), .slice B cs.length k] w fun e w' => e = .returned .nilIface ∧ Became 85 g base cap A (lay bs d cs) w w' := by
  have HP := Lib.hid (place_at h hl x cs.length d hx h1 hd h2)
  clear hd
  have c2 := h.c2
  have hle := h.le
  rcases Nat.eq_zero_or_pos cs.length with h0 | h0
  · obtain rfl : cs = [] := List.eq_nil_of_length_eq_zero h0
    rw [lay_nil]
    have HF : Hid (Became 85 g base cap A bs w w) := ⟨A, c, h, Tch.refl _ _, .inl rfl⟩
    simp only [List.length_nil] at HP h2 ⊢
    clear hr h0
    by_cases hdc : c = d
    all_goals
      go_enter Try.func23, Try.ntmps23
      go_wp2_with fail
      refine HP.out.mono ?_
      rintro e w' ⟨rfl, rfl⟩
      go_wp2_with (refine wpList_copy_nothing rfl (.tmp 26) (.tmp 27) 24 24 rfl 5 Try.underlying24 (by kernel_rfl) _ _ _ _ _ _ rfl rfl (by simp) ?_)
      go_ret
      exact ⟨rfl, HF.out⟩
  · rcases A with _ | ad
    · obtain ⟨rfl, _⟩ := h.none_
      rw [List.length_nil] at h2
      omega
    · obtain ⟨h', rfl, cur, hrow, _, hmax, hsz, htake⟩ := h.row rfl
      unfold maxLen at hmax
      obtain ⟨b, off, rfl, hb, hc⟩ := hr.2 h0
      have HF := Lib.hid (h.over (by decide) rfl hrow hsz htake d cs h2)
      have hfit : d + (cs.map bv).length ≤ cur.size := by simp; omega
      have HSRC := Lib.hid (rd_cells hr)
      have HN : Hid ((cs.map bv).length = Nat.min cs.length (bs.length - d)) := by
        show _ = _
        rw [List.length_map]
        exact (Nat.min_eq_left (by omega)).symm
      have hdc : ¬ c = d := by omega
      have HROW := Lib.hid hrow
      have HFIT := Lib.hid hfit
      clear hrow hsz htake hr hc hfit
      go_enter Try.func23, Try.ntmps23
      go_wp2_with fail
      with_reducible refine HP.out.mono ?_
      rintro e w' ⟨rfl, rfl⟩
      go_wp2_with (refine wpList_copy_own rfl (.tmp 26) (.tmp 27) 24 24 rfl 5 Try.underlying24 (by kernel_rfl) h' d (bs.length - d) (c - d) ⟨b, off, none⟩ cs.length k rfl rfl cur 5 HROW.out (cs.map bv) HN.out HSRC.out HFIT.out (bv_one cs) ?_)
      go_ret
      exact ⟨rfl, by simpa only [List.length_map] using HF.out⟩
end

end Go.Proofs.Ytjokbjmfnidmjaa

/- The contracts of an arena's calls: Copy, SetWord; of the laws' words: Code, Bytes, Arena, Base. -/
namespace Go.Proofs.Ytjokbjmfnidmjaa
open Go.RowKit

theorem Became.of_drew {t : TypeId} {g base cap : Nat} {A : Option Addr} {bs : List UInt8} {w w' : World} (h : Became t g base cap A bs w.drew w') : Became t g base cap A bs w w' := by
  obtain ⟨A', c', h1, h2, h3⟩ := h
  exact ⟨A', c', h1, h2.of_drew, h3⟩

section
variable {w : World} {t : TypeId} {g base cap c : Nat} {A : Option Addr} {bs : List UInt8}
end
end Go.Proofs.Ytjokbjmfnidmjaa

/- The contracts of SetWord, and of the laws' words: Code, Bytes, Arena, Base. -/
namespace Go.Proofs.Ytjokbjmfnidmjaa
open Go.RowKit

section
variable {w w1 w2 : World} {t : TypeId} {g base cap c B : Nat} {A : Option Addr} {bs : List UInt8}
theorem Became.after (h : Became t g base cap A bs w1 w2) (hb : Below w.heap.size w w1) : Became t g base cap A bs w w2 := by
  obtain ⟨A', c', h1, h2, h3⟩ := h
  refine ⟨A', c', h1, (Tch.of_below (S := foot g A) hb).trans h2 (fun _ _ h => h), h3.imp id fun h a ha => Nat.le_trans hb.size (h a ha)⟩
theorem Became.below (h : Became t g base cap A bs w w1) (hg : B ≤ g) (hA : ∀ a, A = some a → B ≤ a.block) (hB : B ≤ w.heap.size) :
    ∃ A' c', Ar w1 t g base cap A' c' bs ∧ Below B w w1 ∧ ∀ a, A' = some a → B ≤ a.block := by
  obtain ⟨A', c', h1, h2, h3⟩ := h
  refine ⟨A', c', h1, h2.below (fun k hk => ?_) hB, fun a ha => ?_⟩
  · rcases hk with rfl | ⟨a, e, rfl⟩
    · exact hg
    · exact hA a e
  · rcases h3 with h3 | h3
    · exact hA a (h3 ▸ ha)
    · exact Nat.le_trans hB (h3 a ha)

set_option maxRecDepth 100000 in
set_option maxHeartbeats 400000 in
theorem setword_ok (h : Ar w 85 g base cap A c bs) (hl : bs.length ≤ 1000000) (x d v : Nat) (hx : x < 18446744073709551616) (hv : v < 18446744073709551616) (h1 : base ≤ x) (hd : x - base = d) (h2 : d + 8 ≤ bs.length) :
    Calls Try.prog 39 #[.pointer (some ⟨g, 0, none⟩), .int .u64 (x : Int), .int .u64 (v : Int)] w fun e w' => e = .returned .nilIface ∧ Became 85 g base cap A (lay bs d (lowB 8 v)) w w' := by
  have HD := Lib.hid hd
  clear hd
  go_enter Try.func39, Try.ntmps39
  go_wp2_with fail
  refine (put_any v _ hv).mono ?_
  rintro e w1 ⟨rfl, hf, hb⟩
  have hr := hf.reads
  have HS := store_ok (h.below hb) hl x d (some ⟨w.heap.size, 0, none⟩) 8 (lowB 8 v) w1.heap.size hr hx h1 HD.out (by rw [lowB_length]; exact h2)
  rw [lowB_length] at HS
  have HS := Lib.hid HS
  have HB := Lib.hid hb
  clear hf hr hb
  go_wp2_with fail
  refine HS.out.mono ?_
  rintro e w2 ⟨rfl, hbe⟩
  have HE := Lib.hid (hbe.after HB.out)
  clear hbe
  go_wp2
  go_ret
  exact ⟨rfl, HE.out⟩

set_option maxRecDepth 100000 in
set_option maxHeartbeats 400000 in
theorem setword_no (h : Ar w 85 g base cap A c bs) (hl : bs.length ≤ 1000000) (x v : Nat) (hx : x < 18446744073709551616) (hv : v < 18446744073709551616) (h2 : base ≤ x → bs.length < x - base + 8) :
    Calls Try.prog 39 #[.pointer (some ⟨g, 0, none⟩), .int .u64 (x : Int), .int .u64 (v : Int)] w fun e w' => e = .returned (.iface 60 (.int .i64 2)) ∧ Below w.heap.size w w' := by
  have HD := Lib.hid h2
  clear h2
  go_enter Try.func39, Try.ntmps39
  go_wp2_with fail
  refine (put_any v _ hv).mono ?_
  rintro e w1 ⟨rfl, hf, hb⟩
  have HS := Lib.hid (store_no (h.below hb) hl x 8 (some ⟨w.heap.size, 0, none⟩) 8 hx (by omega) HD.out)
  have HB := Lib.hid hb
  clear hf hb
  go_wp2_with fail
  refine HS.out.mono ?_
  rintro e w2 ⟨rfl, rfl⟩
  go_wp2
  go_ret
  exact ⟨rfl, HB.out⟩
end

set_option maxRecDepth 100000 in
set_option maxHeartbeats 400000 in
theorem code_nil (w : World) : Calls Try.prog 10 #[.nilIface] w fun e w' => e = .returned (.int .i64 0) ∧ w = w' := by
  go_enter Try.func10, Try.ntmps10
  go_wp2
  go_ret
  exact ⟨rfl, rfl⟩

set_option maxRecDepth 100000 in
theorem code_eql (W : World) (k j : Int) : (binOp .eql 30 (.iface 60 (.int .i64 k)) (.iface 60 (.int .i64 j))).run Try.prog W = .ok (.bool (k == j)) W := by rfl

set_option maxRecDepth 100000 in
set_option maxHeartbeats 400000 in
theorem code_err (w : World) (k : Nat) (h1 : 1 ≤ k) (h2 : k ≤ 10) : Calls Try.prog 10 #[.iface 60 (.int .i64 (k : Int))] w fun e w' => e = .returned (.int .i64 (k : Int)) ∧ w = w' := by
  go_enter Try.func10, Try.ntmps10
  go_wp2
  go_loop [3] (fun i => ∃ j : Nat, 1 ≤ j ∧ j ≤ k ∧ i = .int .i64 j) (fun i => k - (intOf i).toNat)
  case atStart => exact ⟨1, by omega, h1, rfl⟩
  case round =>
    obtain ⟨j, hj1, hj2, rfl⟩ := hrel
    by_cases hlt : j < k
    · have q : ((k : Int) == (j : Int)) = false := by rw [beq_eq_false_iff_ne]; omega
      have q2 : ∀ W : World, (binOp .eql 30 (.iface 60 (.int .i64 (k : Int))) (.iface 60 (.int .i64 (j : Int)))).run Try.prog W = .ok (.bool false) W := fun W => by rw [code_eql, q]
      go_wp2
      go_round
      case rel => exact ⟨j + 1, by omega, by omega, by go_num⟩
      case measure => simp [intOf]; omega
    · obtain rfl : k = j := by omega
      have q2 : ∀ W : World, (binOp .eql 30 (.iface 60 (.int .i64 (k : Int))) (.iface 60 (.int .i64 (k : Int)))).run Try.prog W = .ok (.bool true) W := fun W => by rw [code_eql, beq_self_eq_true]
      go_wp2
      go_ret
      exact ⟨rfl, rfl⟩

section
variable {w : World} {g base cap c : Nat} {A : Option Addr} {bs : List UInt8}
set_option maxRecDepth 100000 in
set_option maxHeartbeats 400000 in
theorem bytes_any (h : Ar w 85 g base cap A c bs) (hl : bs.length ≤ 1000000) (hbase : base ≤ 4611686018427387904) :
    Calls Try.prog 14 #[.pointer (some ⟨g, 0, none⟩)] w fun e w' => NewRow bs w e w' := by
  have hk := load_ok h hl base bs.length 0 (by omega) (Nat.le_refl _) (by omega) (by omega)
  rw [List.drop_zero, List.take_length] at hk
  have HK := Lib.hid hk
  clear hk
  go_enter Try.func14, Try.ntmps14
  go_wp2_with fail
  refine (base_any h).mono ?_
  rintro e w1 ⟨rfl, rfl⟩
  go_wp2_with fail
  refine (len_any h).mono ?_
  rintro e w1 ⟨rfl, rfl⟩
  go_wp2_with fail
  refine HK.out.mono ?_
  rintro e w1 ⟨A', c', rfl, ho, hb⟩
  have HO := Lib.hid ho
  clear ho
  go_wp2
  go_ret
  exact ⟨A', c', rfl, HO.out, hb⟩
end

end Go.Proofs.Ytjokbjmfnidmjaa

/- The contracts of the laws' words: Arena, Base (where the seat has them). -/
namespace Go.Proofs.Ytjokbjmfnidmjaa
open Go.RowKit

/-- An arena of the call's own. -/
def MadeAr (base cap : Nat) (bs : List UInt8) (w : World) (e : Ending) (w' : World) : Prop :=
  ∃ g A c, e = .returned (.pointer (some ⟨g, 0, none⟩)) ∧ Ar w' 85 g base cap A c bs ∧ Below w.heap.size w w' ∧ w.heap.size ≤ g ∧ ∀ a, A = some a → w.heap.size ≤ a.block

theorem lay_all (cs : List UInt8) (n : Nat) (h : cs.length = n) : lay (List.replicate n 0) 0 cs = cs := by
  subst h
  simp [lay]

set_option maxHeartbeats 1000000 in
theorem arena_any (w : World) (base cap : Nat) (B : Option Addr) (k : Nat) (cs : List UInt8) (hr : Rd w w.heap.size B cs.length cs) (h1 : base % 16 = 0) (h2 : base ≤ 4611686018427387904) (h3 : 1024 ≤ cap) (h4 : cap ≤ 16384) (h5 : cs.length ≤ cap) :
    Calls Try.prog 7 #[.int .u64 (base : Int), .int .i64 (cap : Int), .slice B cs.length k] w fun e w' => MadeAr base cap cs w e w' := by
  have HN := Lib.hid (new_yes w base cap h1 h2 h3 h4)
  clear h1
  go_enter Try.func7, Try.ntmps7
  go_wp2_with fail
  refine HN.out.mono ?_
  rintro e w1 ⟨rfl, ha1, hb1⟩
  have HG := Lib.hid (grow_ok ha1 cs.length (by simp) h4 (by simpa using h5))
  have r1 := hr.below hb1
  have HB1 := Lib.hid hb1
  have HR1 := Lib.hid r1
  clear ha1 hr hb1 r1
  go_wp2_with fail
  refine HG.out.mono ?_
  rintro e w2 ⟨rfl, hbe⟩
  rw [List.nil_append] at hbe
  obtain ⟨A2, c2, ha2, hb2, hA2⟩ := hbe.below (B := w.heap.size) (Nat.le_refl _) (fun a e => by cases e) HB1.out.size
  have r2 := HR1.out.below hb2
  have hs := store_ok ha2 (by simp; omega) base 0 B k cs w.heap.size r2 (by omega) (Nat.le_refl _) (by omega) (by simp)
  rw [lay_all cs cs.length rfl] at hs
  have HS := Lib.hid hs
  have HB2 := Lib.hid (HB1.out.trans hb2)
  clear hs r2 ha2 hb2 HB1 HR1 HG HN hbe
  have HA2 := Lib.hid hA2
  clear hA2
  go_wp2_with fail
  refine HS.out.mono ?_
  rintro e w3 ⟨rfl, hbe⟩
  obtain ⟨A3, c3, ha3, hb3, hA3⟩ := hbe.below (B := w.heap.size) (Nat.le_refl _) HA2.out HB2.out.size
  have HF : Hid (MadeAr base cap cs w (.returned (.pointer (some ⟨w.heap.size, 0, none⟩))) w3) := ⟨w.heap.size, A3, c3, rfl, ha3, HB2.out.trans hb3, Nat.le_refl _, hA3⟩
  clear hbe ha3 hb3 hA3 HS HA2
  go_wp2
  go_ret
  exact HF.out

end Go.Proofs.Ytjokbjmfnidmjaa

/- The contracts of an arena's calls: Widen, Word, Fill; and of the document's own arena: Grow, Widen, There. -/
namespace Go.Proofs.Ytjokbjmfnidmjaa
open Go.RowKit

section
variable {w : World} {t : TypeId} {g base cap c : Nat} {A : Option Addr} {bs : List UInt8}
theorem Ar.widened (h : Ar w t g base cap A c bs) (ht : t ≠ 5) (n : Nat) : Became t g base n A bs w (w.setCell ⟨g, 1, none⟩ (.int .i64 (n : Int))) := by
  refine ⟨A, c, ⟨?_, h.own.1, ?_⟩, Tch.set w ⟨g, 1, none⟩ _ (.inl rfl), .inl rfl⟩
  · rw [heap_setCell_same w g 1 _ t _ h.obj]
    rfl
  · rcases h.own.2 with h2 | ⟨g', cap', cur, hv, hg, hh, r⟩
    · exact .inl h2
    · refine .inr ⟨g', cap', cur, hv, hg, ?_, r⟩
      injection hv with e
      rw [Below.heap_setCell _ _ _ _ (own_ne h.own h.obj ht e)]
      exact hh

set_option maxRecDepth 100000 in
set_option maxHeartbeats 400000 in
theorem word_ok (h : Ar w 85 g base cap A c bs) (hl : bs.length ≤ 1000000) (x d : Nat) (hx : x < 18446744073709551616) (h1 : base ≤ x) (hd : x - base = d) (h2 : d + 8 ≤ bs.length) :
    Calls Try.prog 67 #[.pointer (some ⟨g, 0, none⟩), .int .u64 (x : Int)] w fun e w' => e = .returned (.tuple #[.int .u64 (numB ((bs.drop d).take 8) : Int), .nilIface]) ∧ w = w' := by
  have HP := Lib.hid (place_at h hl x 8 d hx h1 hd h2)
  have HG := Lib.hid (get_yes A bs.length c w.heap.size bs d w h.reads h.le hl h2)
  have c2 := h.c2
  clear hd
  go_enter Try.func67, Try.ntmps67
  go_wp2_with fail
  refine HP.out.mono ?_
  rintro e w' ⟨rfl, rfl⟩
  go_wp2_with fail
  refine HG.out.mono ?_
  rintro e w' ⟨rfl, rfl⟩
  go_wp2
  go_ret2
  exact ⟨rfl, rfl⟩

set_option maxRecDepth 100000 in
set_option maxHeartbeats 400000 in
theorem word_no (h : Ar w 85 g base cap A c bs) (hl : bs.length ≤ 1000000) (x : Nat) (hx : x < 18446744073709551616) (h2 : base ≤ x → bs.length < x - base + 8) :
    Calls Try.prog 67 #[.pointer (some ⟨g, 0, none⟩), .int .u64 (x : Int)] w fun e w' => e = .returned (.tuple #[.int .u64 0, .iface 60 (.int .i64 2)]) ∧ w = w' := by
  have HP := Lib.hid (place_no h hl x 8 hx h2)
  clear h2
  go_enter Try.func67, Try.ntmps67
  go_wp2_with fail
  refine HP.out.mono ?_
  rintro e w' ⟨rfl, rfl⟩
  go_wp2
  go_ret2
  exact ⟨rfl, rfl⟩

theorem lay_step (d k : Nat) (u : UInt8) (h : d + k < bs.length) : (lay bs d (List.replicate k u)).set (d + k) u = lay bs d (List.replicate (k + 1) u) := by
  have e : (bs.take d).length = d := by simp; omega
  unfold lay
  rw [List.set_append_right _ _ (by omega), e, Nat.add_sub_cancel_left, List.set_append_right _ _ (by simp)]
  simp only [List.length_replicate, Nat.sub_self]
  rw [List.drop_eq_getElem_cons (by omega), List.set_cons_zero, List.replicate_succ', List.append_assoc]
  rfl

/-- One byte of the arena's row is set. -/
theorem Ar.put1 (h : Ar w t g base cap A c bs) (ht : t ≠ 5) {h' : Nat} (hA : A = some ⟨h', 0, none⟩) (j : Nat) (u : UInt8) : Ar (w.setCell ⟨h', j, none⟩ (bv u)) t g base cap A c (bs.set j u) ∧ Tch (foot g A) w (w.setCell ⟨h', j, none⟩ (bv u)) := by
  subst hA
  have hne : g ≠ h' := (own_ne h.own h.obj ht rfl).symm
  refine ⟨⟨?_, ?_⟩, Tch.set w ⟨h', j, none⟩ _ (.inr ⟨_, rfl, rfl⟩)⟩
  · rw [Below.heap_setCell _ _ _ _ hne, List.length_set]
    exact h.obj
  · rw [List.length_set, List.map_set]
    exact (h.own.stored j (bv u)).1
theorem Ar.byte (h : Ar w t g base cap A c bs) {h' : Nat} (hA : A = some ⟨h', 0, none⟩) (j : Nat) (hj : j < bs.length) : ∃ u : UInt8, w.cell? ⟨h', j, none⟩ = some (bv u) ∧ w.frozen? ⟨h', j, none⟩ = false := by
  subst hA
  refine ⟨bs[j], ?_, h.own.frozenAt j⟩
  rw [h.own.cellAt j (by omega), List.getElem?_map, List.getElem?_eq_getElem hj]
  rfl

set_option maxRecDepth 100000 in
set_option maxHeartbeats 400000 in
theorem fill_no (h : Ar w 85 g base cap A c bs) (hl : bs.length ≤ 1000000) (x n : Nat) (v : Int) (hx : x < 18446744073709551616) (h2 : base ≤ x → bs.length < x - base + n) :
    Calls Try.prog 57 #[.pointer (some ⟨g, 0, none⟩), .int .u64 (x : Int), .int .u64 (n : Int), .int .u8 v] w fun e w' => e = .returned (.iface 60 (.int .i64 2)) ∧ w = w' := by
  have HP := Lib.hid (place_no h hl x n hx h2)
  clear h2
  go_enter Try.func57, Try.ntmps57
  go_wp2_with fail
  refine HP.out.mono ?_
  rintro e w' ⟨rfl, rfl⟩
  go_wp2
  go_ret
  exact ⟨rfl, rfl⟩

set_option maxRecDepth 100000 in
set_option maxHeartbeats 1000000 in
theorem fill_ok (h : Ar w 85 g base cap A c bs) (hl : bs.length ≤ 1000000) (x n d : Nat) (u : UInt8) (hx : x < 18446744073709551616) (h1 : base ≤ x) (hd : x - base = d) (h2 : d + n ≤ bs.length) :
    Calls Try.prog 57 #[.pointer (some ⟨g, 0, none⟩), .int .u64 (x : Int), .int .u64 (n : Int), .int .u8 (u.toNat : Int)] w fun e w' => e = .returned .nilIface ∧ Became 85 g base cap A (lay bs d (List.replicate n u)) w w' := by
  have HP := Lib.hid (place_at h hl x n d hx h1 hd h2)
  clear hd
  go_enter Try.func57, Try.ntmps57
  go_wp2_with fail
  refine HP.out.mono ?_
  rintro e w' ⟨rfl, rfl⟩
  go_wp2
  go_loopw [23] (fun i wr => ∃ k : Nat, k ≤ n ∧ i = .int .u64 k ∧ Ar wr 85 g base cap A c (lay bs d (List.replicate k u)) ∧ Tch (foot g A) w wr) (fun i _ => n - (intOf i).toNat)
  case atStart => exact ⟨0, Nat.zero_le _, rfl, by rw [List.replicate_zero, lay_nil]; exact h, Tch.refl _ _⟩
  case round =>
    obtain ⟨k, hk, rfl, ha, ht⟩ := hrel
    by_cases hlt : k < n
    · have hlen := lay_length bs d (List.replicate k u) (by simp; omega)
      rcases A with _ | ad
      · obtain ⟨e0, _⟩ := h.none_
        subst e0
        rw [List.length_nil] at h2
        omega
      · obtain ⟨h', rfl, _⟩ := h.row rfl
        obtain ⟨v, q1, q2⟩ := ha.byte rfl (d + k) (by omega)
        obtain ⟨p1, p2⟩ := ha.put1 (by decide) rfl (d + k) u
        rw [lay_step d k u (by omega)] at p1
        have c2 := ha.c2
        rw [hlen] at c2
        have P1 := Lib.hid p1
        have P2 := Lib.hid (ht.trans p2 (fun _ _ h => h))
        clear p1 p2 hlen ha ht
        go_wp2
        go_roundw
        case rel => exact ⟨k + 1, by omega, by go_num, P1.out, P2.out⟩
        case measure => simp [intOf]; omega
    · go_wp2
      go_ret
      obtain rfl : k = n := by omega
      exact ⟨rfl, A, c, ha, ht, .inl rfl⟩
end

end Go.Proofs.Ytjokbjmfnidmjaa

/- A region that draws its order: readers, calls that wait for one another and leave what lies below a bound as it was, and a tail that comes in one order and may write anything. One walk of one order serves every order. No program in sight. -/
namespace Go.Proofs.Ytjokbjmfnidmjaa
open Go.RowKit

/-- The worlds from w on, as far as what lies below block B goes. -/
def LaterB (B : Nat) (w : World) : Type := { w' : World // Below B w w' }
def LaterB.val {B : Nat} {w : World} (x : LaterB B w) : World := x.1
theorem LaterB.ext {B : Nat} {w : World} (x : LaterB B w) : Below B w x.val := x.2
instance (B : Nat) (w : World) : Nonempty (LaterB B w) := ⟨⟨w, Below.refl _ _⟩⟩
def AfterB (B : Nat) (w : World) (w' : World) : Prop := ∃ x : LaterB B w, w' = x.val
attribute [go_sem] AfterB

/-- Operations that yield a value and enter nothing. -/
def isVal : Op → Bool
  | .nilCheck _ => true
  | .build _ _ => true
  | .makeInterface _ _ => true
  | .call { callee := .builtin .len, args := _, argTypes := _ } => true
  | o => isRead o

theorem len_value {P : Program} {ρ : Operand → Value} {o : Oper} {xs : Array Operand} {ats : Array TypeId} {w w' : World} {n : Next} (ho : o.op = .call { callee := .builtin .len, args := xs, argTypes := ats }) (h : (execOp ρ o).run P w = .ok n w') : ∃ v, n = .value v := by
  obtain ⟨dst, op, ty, pos, after, guard⟩ := o
  dsimp only at ho
  subst ho
  exact run_value (s := Builtin.len_ ats ty (xs.map ρ)) h

theorem val_value {P : Program} {ρ : Operand → Value} {o : Oper} {w w' : World} {n : Next} (hr : isVal o.op = true) (h : (execOp ρ o).run P w = .ok n w') : ∃ v, n = .value v := by
  by_cases hi : isRead o.op = true
  · exact read_value hi h
  · have hr0 := hr
    have h0 := h
    unfold execOp at h
    cases ho : o.op <;> simp only [ho, isVal, isRead, Bool.false_eq_true, not_true_eq_false] at hr hi <;> simp only [ho] at h
    case nilCheck x =>
      generalize ρ x = y at h
      split at h
      · simp [runtimePanic, goPanic] at h
      · simp [runtimePanic, goPanic] at h
      · simp [runtimePanic, goPanic] at h
      · split at h
        · simp [runtimePanic, goPanic] at h
        · rw [Sem.run_bind] at h
          generalize Sem.run P program w = r at h
          cases r with
          | halt x w1 => simp [Result.andThen] at h
          | ok v w1 =>
            simp only [Result.andThen] at h
            rw [Sem.run_bind] at h
            generalize Sem.run P (nilAhead _ _ _ _) w1 = r at h
            cases r with
            | halt x w2 => simp [Result.andThen] at h
            | ok b w2 =>
              simp only [Result.andThen] at h
              by_cases hb : (b != some false) = true
              · simp [hb] at h
              · simp [hb] at h
                exact ⟨_, h.1.symm⟩
        · simp at h
          exact ⟨_, h.1.symm⟩
      · simp at h
        exact ⟨_, h.1.symm⟩
    case call c =>
      obtain ⟨callee, xs, ats⟩ := c
      rw [ho] at hr0
      cases callee with
      | builtin b =>
        cases b
        all_goals first
          | exact len_value ho h0
          | cases hr0
      | _ => cases hr0
    all_goals exact run_value h

/-- Is it a plain copy? -/
def mv (ops : Array Oper) (i : Nat) : Bool := match ops[i]? with
  | some o => (match o.op with
    | .move _ => true
    | .assign _ => true
    | _ => false)
  | none => false

/-- Whatever order comes up; behind each operation that is none of the tail's, and no copy, S holds; a copy leaves the world as it is. -/
def wpAnyT (P : Program) (ops : Array Oper) (Q : Exit → Act → World → Prop) (S : World → Prop) (T : List Nat) : Nat → Array Bool → Act → World → Prop
  | 0, l, a, w => Region.ready .any ops l = [] ∧ Q .normal a w
  | n + 1, l, a, w => (Region.ready .any ops l = [] → Q .normal a w) ∧
    ∀ i ∈ Region.ready .any ops l, wpOp P ops Q i (fun a' w' => (i ∉ T → mv ops i = false → S w') ∧ (mv ops i = true → w' = w) ∧ wpAnyT P ops Q S T n (l.setIfInBounds i true) a' w') a w

section
variable {P : Program} {ops : Array Oper} {Q : Exit → Act → World → Prop} {S S' : World → Prop} {T : List Nat}

theorem wpAnyT_any : ∀ (n : Nat) (l : Array Bool) (a : Act) (w : World), wpAnyT P ops Q S T n l a w → wpAny P .any ops Q n l a w
  | 0, _, _, _, h => h
  | n + 1, _, _, _, h => ⟨h.1, fun i hi => wpOp_mono (fun a' w' h' => wpAnyT_any n _ a' w' h'.2.2) (h.2 i hi)⟩

theorem wpAnyT_less (hS : ∀ w, S' w → S w) : ∀ (n : Nat) (l : Array Bool) (a : Act) (w : World), wpAnyT P ops Q S' T n l a w → wpAnyT P ops Q S T n l a w
  | 0, _, _, _, h => h
  | n + 1, _, _, _, h => ⟨h.1, fun i hi => wpOp_mono (fun a' w' h' => ⟨fun k k' => hS _ (h'.1 k k'), h'.2.1, wpAnyT_less hS n _ a' w' h'.2.2⟩) (h.2 i hi)⟩

theorem mv_at {i : Nat} (h : mv ops i = true) : ∃ o x, ops[i]? = some o ∧ (o.op = .move x ∨ o.op = .assign x) := by
  unfold mv at h
  split at h
  · rename_i o ho
    split at h
    · exact ⟨o, _, ho, .inl (by assumption)⟩
    · exact ⟨o, _, ho, .inr (by assumption)⟩
    · cases h
  · cases h
theorem mv_run {o : Oper} {x : Operand} (h : o.op = .move x ∨ o.op = .assign x) (ρ : Operand → Value) (w : World) : (execOp ρ o).run P w = .ok (.value (ρ x)) w := by
  rcases h with h | h <;> simp [execOp, h]
theorem mv_same {i : Nat} {K : Act → World → Prop} {a : Act} {w : World} (h : wpOp P ops Q i K a w) : wpOp P ops Q i (fun a' w' => (mv ops i = true → w' = w) ∧ K a' w') a w := by
  by_cases hm : mv ops i = true
  · obtain ⟨o, x, ho, hx⟩ := mv_at hm
    unfold wpOp at h ⊢
    simp only [ho] at h ⊢
    split
    · rename_i hw
      rw [if_pos hw] at h
      rcases h with h | h
      · left
        unfold Oper.wp at h ⊢
        rw [mv_run hx] at h ⊢
        exact ⟨fun _ => rfl, h⟩
      · exact .inr h
    · rename_i hw
      rw [if_neg hw] at h
      exact ⟨fun _ => by first | rfl | trivial, h⟩
  · exact wpOp_mono (fun a' w' h => ⟨fun h' => absurd h' hm, h⟩) h

/-- Those that can't come up while i has not: each waits for i, or for one of them. -/
def waitOk (ops : Array Oper) (i : Nat) (D : List Nat) : Bool :=
  D.all fun j => match ops[j]? with
    | some o => o.after.any fun e => Region.binds .any e && (e.on == i || D.contains e.on)
    | none => false
theorem waitOk_at {i j : Nat} {D : List Nat} (h : waitOk ops i D = true) (hj : j ∈ D) : ∃ o, ops[j]? = some o ∧ ∃ e ∈ o.after, Region.binds .any e = true ∧ (e.on = i ∨ e.on ∈ D) := by
  have h1 := List.all_eq_true.1 h j hj
  split at h1
  · rename_i o ho
    obtain ⟨e, he, hb⟩ := Array.any_eq_true'.1 h1
    simp only [Bool.and_eq_true, Bool.or_eq_true, beq_iff_eq, List.contains_iff_mem] at hb
    exact ⟨o, ho, e, he, hb.1, hb.2⟩
  · cases h1
theorem wait_no {i j : Nat} {D : List Nat} {l : Array Bool} (h : waitOk ops i D = true) (hu : ∀ k ∈ D, l.getD k true = false) (hi : l.getD i true = false) (hj : j ∈ D) : j ∉ Region.ready .any ops l := by
  intro hr
  obtain ⟨o, ho, e, he, hb, hon⟩ := waitOk_at h hj
  obtain ⟨_, o', ho', hall⟩ := mem_ready.1 hr
  obtain rfl : o' = o := Option.some.inj (ho'.symm.trans ho)
  have h2 := hall e he hb
  rcases hon with rfl | hon
  · rw [getD_both hi] at h2; cases h2
  · rw [getD_both (hu _ hon)] at h2; cases h2

/-- A reader that the tail waits for, or a copy, may be taken first. -/
theorem takeT {i : Nat} {oi : Oper} {v : Value} {D : List Nat} (hi : ops[i]? = some oi) (hsel : Region.noSelect ops = true) (hQ : ∀ c a w, Q (.panic c) (a.put oi.dst v) w → Q (.panic c) a w)
    (hD : mv ops i = true ∨ (waitOk ops i D = true ∧ ∀ j ∈ T, j ∈ D)) : ∀ (n : Nat) (l : Array Bool) (a : Act) (w : World),
      (∀ j oj, ops[j]? = some oj → j ≠ i → l.getD j true = false → (∀ e ∈ oj.after, Region.binds .any e = true → e.on ≠ i) → oi.apart ops oj = true) → (mv ops i = true ∨ ∀ k ∈ D, l.getD k true = false) →
      i ∈ Region.ready .any ops l → YieldsIf P ops (fun w' => mv ops i = true ∨ S w') oi v a → (mv ops i = true ∨ S w) → wpAnyT P ops Q S T n (l.setIfInBounds i true) (a.put oi.dst v) w → wpAnyT P ops Q S T (n + 1) l a w
  | 0, l, a, w, _, _, hr, hy, hS, H => by
    refine ⟨fun h => absurd (h ▸ hr) (by simp), fun j hj => ?_⟩
    by_cases e : j = i
    · subst e; exact hy.wpOp hi hS ⟨fun _ h => hS.resolve_left (by simp [h]), fun _ => rfl, H⟩
    · have := ready_mono hj e
      rw [H.1] at this
      cases this
  | n + 1, l, a, w, hf, hu, hr, hy, hS, H => by
    refine ⟨fun h => absurd (h ▸ hr) (by simp), fun j hj => ?_⟩
    by_cases e : j = i
    · subst e; exact hy.wpOp hi hS ⟨fun _ h => hS.resolve_left (by simp [h]), fun _ => rfl, H⟩
    · have hiu := (mem_ready.1 hr).1
      have hjD : mv ops i = true ∨ j ∉ D := by
        rcases hD with h | ⟨h, _⟩
        · exact .inl h
        · rcases hu with h' | h'
          · exact .inl h'
          · exact .inr fun hj' => wait_no h h' hiu hj' hj
      obtain ⟨hju, oj, hoj, hall⟩ := mem_ready.1 hj
      have hno : ∀ e ∈ oj.after, Region.binds .any e = true → e.on ≠ i := fun e he hb h => by
        have := hall e he hb
        rw [h, getD_both hiu] at this
        cases this
      have h2 := wpOp_putIf hoj (hf j oj hoj e hju hno) (fun cs b => Region.noSelect_spec hsel i oi cs b hi) (fun cs b => Region.noSelect_spec hsel j oj cs b hoj) hQ hy (H.2 j (ready_mono hj e))
      refine wpOp_mono (fun a' w' h3 => ⟨h3.2.1, h3.2.2.1, takeT hi hsel hQ hD n _ a' w' (fun k ok hk hki hku hkn => hf k ok hk hki ?_ hkn) ?_ (ready_mono hr (Ne.symm e)) h3.1 ?_ ?_⟩) h2
      · by_cases h : j = k
        · subst h; exact hju
        · rw [getD_set_ne true h] at hku; exact hku
      · rcases hjD with h | h
        · exact .inl h
        · exact hu.imp id fun hu k hk => by rw [getD_set_ne true (fun h' => h (by rw [h']; exact hk))]; exact hu k hk
      · rcases hD with h | ⟨_, h⟩
        · exact .inl h
        · rcases hjD with h' | h'
          · exact .inl h'
          · rcases hS with hS | hS
            · exact .inl hS
            · right
              by_cases hm : mv ops j = true
              · rw [h3.2.2.1 hm]; exact hS
              · exact h3.2.1 (fun h4 => h' (h j h4)) (by simpa using hm)
      · rw [Array.setIfInBounds_comm _ _ e]; exact h3.2.2.2

/-- Who waits for i, among those that have not come up. -/
def dset (ops : Array Oper) (l : Array Bool) (i : Nat) : List Nat :=
  (List.range ops.size).foldl (fun D j => if l.getD j true == false && (match ops[j]? with
    | some o => o.after.any fun e => Region.binds .any e && (e.on == i || D.contains e.on)
    | none => false) then j :: D else D) []

def behindT (ops : Array Oper) (l : Array Bool) (i : Nat) (T D : List Nat) : Bool := waitOk ops i D && (D.all (fun k => l.getD k true == false) && T.all fun t => D.contains t)

def segT (ops : Array Oper) (T : List Nat) : Array Bool → List Nat → Bool
  | _, [] => true
  | l, i :: r => (Region.ready .any ops l).contains i && (Region.free .any ops l i && (((ops[i]?).map fun o => isVal o.op).getD false && ((mv ops i || behindT ops l i T (dset ops l i)) && segT ops T (l.setIfInBounds i true) r)))

def seqT (ops : Array Oper) : Array Bool → List Nat → Bool
  | l, [] => (Region.ready .any ops l).isEmpty
  | l, i :: r => Region.ready .any ops l == [i] && ((ops[i]?).isSome && seqT ops (l.setIfInBounds i true) r)

def planT (ops : Array Oper) (last T : List Nat) : Array Bool → List (List Nat × Nat) → Bool
  | l, [] => segT ops T l last && seqT ops (mark l last) T
  | l, (rs, i) :: more => segT ops T l rs && (Region.ready .any ops (mark l rs) == [i] && !mv ops i && planT ops last T ((mark l rs).setIfInBounds i true) more)

def planTLen (last T : List Nat) : List (List Nat × Nat) → Nat
  | [] => T.length + last.length
  | (rs, _) :: more => 1 + planTLen last T more + rs.length

def wpT (P : Program) (ops : Array Oper) (Q : Exit → Act → World → Prop) (last T : List Nat) : List (List Nat × Nat) → Nat → Act → World → Prop
  | [], B, a, w => wpQuiet P ops (AfterB B w) (fun a' => wpList P ops Q (pick ops T) a' w) (pick ops last) a
  | (rs, i) :: more, B, a, w => wpQuiet P ops (AfterB B w) (fun a' => wpOp P ops Q i (fun a'' w'' => Below B w w'' ∧ ∃ B', B ≤ B' ∧ wpT P ops Q last T more B' a'' w'') a' w) (pick ops rs) a

theorem seqT_any (hsub : ∀ j ∈ T, j ∈ T) : ∀ (t : List Nat) (l : Array Bool) (a : Act) (w : World), (∀ j ∈ t, j ∈ T) → seqT ops l t = true → wpList P ops Q (pick ops t) a w → wpAnyT P ops Q S T t.length l a w
  | [], l, a, w, _, hc, h => ⟨by simpa [seqT] using hc, h⟩
  | i :: r, l, a, w, ht, hc, h => by
    simp only [seqT, Bool.and_eq_true, beq_iff_eq, Option.isSome_iff_exists] at hc
    obtain ⟨h1, ⟨o, ho⟩, h3⟩ := hc
    simp only [pick, ho] at h
    refine ⟨fun h0 => (by rw [h1] at h0; cases h0), fun j hj => ?_⟩
    rw [h1] at hj
    obtain rfl : j = i := by simpa using hj
    have hw : wpOp P ops Q j (wpList P ops Q (pick ops r)) a w := by unfold wpOp; simp only [ho]; exact h
    exact wpOp_mono (fun a' w' h' => ⟨fun hn => absurd (ht j (by simp)) hn, h'.1, seqT_any hsub r _ a' w' (fun k hk => ht k (by simp [hk])) h3 h'.2⟩) (mv_same hw)

theorem segT_any (hsel : Region.noSelect ops = true) (hQ : ∀ c a t v w, Q (.panic c) (Act.put a (some t) v) w → Q (.panic c) a w) (B : Nat) (w : World) (K : Act → Prop) (n : Nat) :
    ∀ (rs : List Nat) (l : Array Bool) (a : Act), segT ops T l rs = true → wpQuiet P ops (AfterB B w) K (pick ops rs) a →
      (∀ a', K a' → wpAnyT P ops Q (Below B w) T n (mark l rs) a' w) → wpAnyT P ops Q (Below B w) T (n + rs.length) l a w
  | [], l, a, _, h, hk => hk a h
  | i :: r, l, a, hc, h, hk => by
    simp only [segT, Bool.and_eq_true] at hc
    obtain ⟨h1, h2, h3, h5, h4⟩ := hc
    simp only [behindT, Bool.and_eq_true, Bool.or_eq_true] at h5
    cases ho : ops[i]? with
    | none => simp [ho] at h3
    | some o =>
      simp only [ho, Option.map_some, Option.getD_some] at h3
      simp only [pick, ho] at h
      have step : ∃ v, YieldsIf P ops (Below B w) o v a ∧ wpQuiet P ops (AfterB B w) K (pick ops r) (a.put o.dst v) := by
        unfold wpQuiet at h
        by_cases hw : Region.wanted o (yielded ops a.tmps) = true
        · rw [if_pos hw] at h
          obtain ⟨v, hv, hn⟩ := h
          refine ⟨v, .inl ⟨hw, fun w' hw' => ?_⟩, hn⟩
          have hq := hv w' ⟨⟨w', hw'⟩, rfl⟩
          unfold Oper.quietAt at hq
          generalize hr : (execOp a.eval o).run P w' = res at hq
          cases res with
          | ok m w1 =>
            obtain ⟨x, rfl⟩ := val_value h3 hr
            simp only [Oper.quietUpon] at hq
            rw [hq.1, hq.2]
          | halt x w1 => simp only [Oper.quietUpon] at hq
        · rw [if_neg hw] at h
          exact ⟨undef, .inr ⟨by simpa using hw, rfl⟩, h⟩
      obtain ⟨v, hy, hn⟩ := step
      have ih := segT_any hsel hQ B w K n r (l.setIfInBounds i true) (a.put o.dst v) h4 hn hk
      have hQ' : ∀ c a w, Q (.panic c) (a.put o.dst v) w → Q (.panic c) a w := fun c a' w' hh => by
        cases hd : o.dst with
        | none => rw [hd] at hh; exact hh
        | some t => rw [hd] at hh; exact hQ c a' t v w' hh
      have hy' : YieldsIf P ops (fun w' => mv ops i = true ∨ Below B w w') o v a := by
        rcases hy with ⟨hw, hv⟩ | hy
        · refine .inl ⟨hw, fun w' hw' => ?_⟩
          rcases hw' with hw' | hw'
          · obtain ⟨o', x, ho', hx⟩ := mv_at hw'
            obtain rfl : o' = o := Option.some.inj (ho'.symm.trans ho)
            have e := hv w (Below.refl _ _)
            rw [mv_run hx] at e ⊢
            injection e with e1 e2
            injection e1 with e1
            rw [e1]
          · exact hv w' hw'
        · exact .inr hy
      have := takeT (Q := Q) (S := Below B w) (T := T) ho hsel hQ' (h5.imp id fun g => ⟨g.1, fun j hj => by have := List.all_eq_true.1 g.2.2 j hj; simpa using this⟩) (n + r.length) l a w (Region.free_spec ho h2) (h5.imp id fun g k hk => by have := List.all_eq_true.1 g.2.1 k hk; simpa using this) (by simpa using h1) hy' (.inr (Below.refl _ _)) ih
      simpa [Nat.add_assoc] using this

theorem planT_any (hsel : Region.noSelect ops = true) (hQ : ∀ c a t v w, Q (.panic c) (Act.put a (some t) v) w → Q (.panic c) a w) (last : List Nat) :
    ∀ (p : List (List Nat × Nat)) (l : Array Bool) (B : Nat) (a : Act) (w : World), planT ops last T l p = true → wpT P ops Q last T p B a w → wpAnyT P ops Q (Below B w) T (planTLen last T p) l a w
  | [], l, B, a, w, hc, h => by
    simp only [planT, Bool.and_eq_true] at hc
    exact segT_any hsel hQ B w _ T.length last l a hc.1 h (fun a' ha => seqT_any (fun _ h => h) T _ a' w (fun _ h => h) hc.2 ha)
  | (rs, i) :: more, l, B, a, w, hc, h => by
    simp only [planT, Bool.and_eq_true, beq_iff_eq] at hc
    obtain ⟨h1, ⟨h2, h6⟩, h3⟩ := hc
    refine segT_any hsel hQ B w _ (1 + planTLen last T more) rs l a h1 h (fun a' ha => ?_)
    rw [Nat.add_comm]
    refine ⟨fun h0 => (by rw [h2] at h0; cases h0), fun j hj => ?_⟩
    rw [h2] at hj
    obtain rfl : j = i := by simpa using hj
    refine wpOp_mono (fun a'' w'' hh => ⟨fun _ _ => hh.1, fun hm => by simp [hm] at h6, ?_⟩) ha
    obtain ⟨hb, B', hB, hm⟩ := hh
    exact wpAnyT_less (fun w3 h4 => hb.trans (h4.mono hB)) _ _ _ _ (planT_any hsel hQ last more _ B' a'' w'' h3 hm)

/-- The region, by one order. -/
theorem wp_region_tail {id : Nat} {a : Act} {w : World} (B : Nat) (p : List (List Nat × Nat)) (last T : List Nat) (hm : P.follows .mixedOrders = true) (hsel : Region.noSelect ops = true)
    (hc : (planT ops last T (Array.replicate ops.size false) p && planTLen last T p == ops.size) = true) (hQ : ∀ c a t v w, Q (.panic c) (Act.put a (some t) v) w → Q (.panic c) a w)
    (h : wpT P ops Q last T p B a w.drew) : (Code.region id ops true).wp P Q a w := by
  simp only [Bool.and_eq_true, beq_iff_eq] at hc
  have := planT_any hsel hQ last p _ B a w.drew hc.1 h
  rw [hc.2] at this
  exact wp_region_any hm (wpAnyT_any _ _ _ _ this)

theorem tail_cons {rs : List Nat} {i : Nat} {more : List (List Nat × Nat)} {last : List Nat} {B : Nat} {a : Act} {w : World} {l : List Oper} (hl : pick ops rs = l)
    (h : wpQuiet P ops (AfterB B w) (fun a' => wpOp P ops Q i (fun a'' w'' => Below B w w'' ∧ ∃ B', B ≤ B' ∧ wpT P ops Q last T more B' a'' w'') a' w) l a) : wpT P ops Q last T ((rs, i) :: more) B a w := by
  subst hl; exact h
theorem tail_last {last : List Nat} {B : Nat} {a : Act} {w : World} {l t : List Oper} (hl : pick ops last = l) (ht : pick ops T = t)
    (h : wpQuiet P ops (AfterB B w) (fun a' => wpList P ops Q t a' w) l a) : wpT P ops Q last T [] B a w := by
  subst hl ht; exact h

theorem pick_list {a : Act} {w : World} {t : List Oper} (ht : pick ops T = t) (h : wpList P ops Q t a w) : wpList P ops Q (pick ops T) a w := by
  subst ht; exact h
theorem pick_quiet {rs : List Nat} {C : World → Prop} {K : Act → Prop} {a : Act} {l : List Oper} (hl : pick ops rs = l) (h : wpQuiet P ops C K l a) : wpQuiet P ops C K (pick ops rs) a := by
  subst hl; exact h

/-- A call of a Go function, by its contract. -/
theorem tail_call {i B : Nat} {dst : Option Tmp} {f : FuncId} {args : Array Operand} {tys : Array TypeId} {ty : TypeId} {pos : String} {after : Array Edge} {guard : Option (Nat × Bool)} {a : Act} {w : World} {K : Nat → Act → World → Prop}
    (hf : ∀ (xs : Array Value) (w : World), (callFunc f xs).run P w = .ok (.enter f xs) w)
    (ho : ops[i]? = some { dst := dst, op := .call { callee := .value (.func f), args := args, argTypes := tys }, type := ty, pos := pos, after := after, guard := guard })
    (hw : Region.wanted { dst := dst, op := .call { callee := .value (.func f), args := args, argTypes := tys }, type := ty, pos := pos, after := after, guard := guard } (yielded ops a.tmps) = true)
    {vs : Array Value} (hvl : args.toList.map a.eval = vs.toList)
    {R : Value → World → Prop} (hc : Calls P f vs w (fun e w' => ∃ v, e = .returned v ∧ Below B w w' ∧ R v w')) (B' : Nat) (hB : B ≤ B') (hk : ∀ v w', Below B w w' → R v w' → K B' (a.put dst v) w') :
    wpOp P ops Q i (fun a'' w'' => Below B w w'' ∧ ∃ B', B ≤ B' ∧ K B' a'' w'') a w := by
  unfold wpOp
  simp only [ho]
  rw [if_pos hw]
  refine .inl ?_
  have hvs : args.map a.eval = vs := Array.ext' (by simpa using hvl)
  subst hvs
  unfold Oper.wp
  rw [execOp_call_go, hf]
  simp only [Oper.upon, Array.empty_append, Array.append_empty]
  refine hc.mono fun e w' hh => ?_
  obtain ⟨v, rfl, h1, h2⟩ := hh
  exact ⟨h1, B', hB, hk v w' h1 h2⟩

/-- The same, the next bound chosen behind the call. -/
theorem tail_call2 {i B : Nat} {dst : Option Tmp} {f : FuncId} {args : Array Operand} {tys : Array TypeId} {ty : TypeId} {pos : String} {after : Array Edge} {guard : Option (Nat × Bool)} {a : Act} {w : World} {K : Nat → Act → World → Prop}
    (hf : ∀ (xs : Array Value) (w : World), (callFunc f xs).run P w = .ok (.enter f xs) w)
    (ho : ops[i]? = some { dst := dst, op := .call { callee := .value (.func f), args := args, argTypes := tys }, type := ty, pos := pos, after := after, guard := guard })
    (hw : Region.wanted { dst := dst, op := .call { callee := .value (.func f), args := args, argTypes := tys }, type := ty, pos := pos, after := after, guard := guard } (yielded ops a.tmps) = true)
    {vs : Array Value} (hvl : args.toList.map a.eval = vs.toList)
    {R : Value → World → Prop} (hc : Calls P f vs w (fun e w' => ∃ v, e = .returned v ∧ Below B w w' ∧ R v w')) (hk : ∀ v w', Below B w w' → R v w' → ∃ B', B ≤ B' ∧ K B' (a.put dst v) w') :
    wpOp P ops Q i (fun a'' w'' => Below B w w'' ∧ ∃ B', B ≤ B' ∧ K B' a'' w'') a w := by
  unfold wpOp
  simp only [ho]
  rw [if_pos hw]
  refine .inl ?_
  have hvs : args.map a.eval = vs := Array.ext' (by simpa using hvl)
  subst hvs
  unfold Oper.wp
  rw [execOp_call_go, hf]
  simp only [Oper.upon, Array.empty_append, Array.append_empty]
  refine hc.mono fun e w' hh => ?_
  obtain ⟨v, rfl, h1, h2⟩ := hh
  exact ⟨h1, hk v w' h1 h2⟩

theorem bslice_run {o : Oper} {a : Act} {w w1 : World} {v : Value} {t : TypeId} {len : Nat} {parts : Array (Nat × Operand)} {ps : Array (Nat × Value)} (ho : o.op = .buildSlice t len parts)
    (hp : parts.toList.map (fun p => (p.1, a.eval p.2)) = ps.toList) (hr : (Instr.buildSlice t len ps).run P w = .ok v w1) : (execOp a.eval o).run P w = .ok (.value v) w1 := by
  have e : parts.map (fun (i, x) => (i, a.eval x)) = ps := Array.ext' (by simpa using hp)
  unfold execOp
  simp only [ho]
  rw [e, Sem.run_bind, hr]
  rfl

/-- An operation that yields a value, its temporary named. -/
theorem tail_val2 {i B : Nat} {o : Oper} {a : Act} {w w1 : World} {v : Value} {K : Act → World → Prop} (d : Option Tmp) (ho : ops[i]? = some o) (hd : o.dst = d) (hw : Region.wanted o (yielded ops a.tmps) = true)
    (hr : (execOp a.eval o).run P w = .ok (.value v) w1) (hb : Below B w w1) (hk : K (a.put d v) w1) : wpOp P ops Q i (fun a'' w'' => Below B w w'' ∧ K a'' w'') a w := by
  subst hd
  unfold wpOp
  simp only [ho]
  rw [if_pos hw]
  refine .inl ?_
  unfold Oper.wp
  rw [hr]
  exact ⟨hb, hk⟩

/-- An operation that yields a value and may make memory. -/
theorem tail_val {i B : Nat} {o : Oper} {a : Act} {w w1 : World} {v : Value} {K : Act → World → Prop} (ho : ops[i]? = some o) (hw : Region.wanted o (yielded ops a.tmps) = true)
    (hr : (execOp a.eval o).run P w = .ok (.value v) w1) (hb : Below B w w1) (hk : K (a.put o.dst v) w1) : wpOp P ops Q i (fun a'' w'' => Below B w w'' ∧ K a'' w'') a w := by
  unfold wpOp
  simp only [ho]
  rw [if_pos hw]
  refine .inl ?_
  unfold Oper.wp
  rw [hr]
  exact ⟨hb, hk⟩
end

end Go.Proofs.Ytjokbjmfnidmjaa

/- The contracts of the document's own numbers: Get, Low, IsSize, Pack, Unpack, Need, Class. -/
namespace Go.Proofs.Ytjokbjmfnidmjaa
open Go.RowKit

theorem rt_i {k : IntKind} {a b : Int} (h : a = b) : Ending.returned (.int k a) = .returned (.int k b) := by rw [h]
theorem rt_b {a b : Bool} (h : a = b) : Ending.returned (.bool a) = .returned (.bool b) := by rw [h]

set_option maxHeartbeats 400000 in
theorem rget_yes (A : Option Addr) (len c B : Nat) (bs : List UInt8) (p n : Nat) (w : World) (h : Rd w B A len bs) (hlc : len ≤ c) (hl : len ≤ 1000000) (hn0 : 0 < n) (hn : n ≤ 8) (h2 : p + n ≤ len) :
    Calls Try.prog 72 #[.slice A len c, .int .u64 (p : Int), .int .i64 (n : Int)] w fun e w' => e = .returned (.tuple #[.int .u64 (numB ((bs.drop p).take n) : Int), .bool true]) ∧ w = w' := by
  obtain ⟨b, off, rfl, hb, _, _⟩ := h.at_ (k := 0) (by omega)
  have hs := h.sub p n h2
  go_enter Try.func72, Try.ntmps72
  go_wp2_with fail
  refine (refNum_any _ _ _ _ _ _ hs (by omega)).mono ?_
  rintro e w' ⟨rfl, rfl⟩
  go_wp2
  go_ret2
  exact ⟨rfl, rfl⟩

set_option maxHeartbeats 400000 in
theorem rget_no (A : Option Addr) (len c p n : Nat) (w : World) (hl : len ≤ 1000000) (hn : n ≤ 8) (h2 : len < p + n) :
    Calls Try.prog 72 #[.slice A len c, .int .u64 (p : Int), .int .i64 (n : Int)] w fun e w' => e = .returned (.tuple #[.int .u64 0, .bool false]) ∧ w = w' := by
  by_cases h3 : len < p
  · go_enter Try.func72, Try.ntmps72
    go_wp2
    go_ret2
    exact ⟨rfl, rfl⟩
  · go_enter Try.func72, Try.ntmps72
    go_wp2
    go_ret2
    exact ⟨rfl, rfl⟩

theorem low_div (v k q : Nat) (h : v / 256 ^ k = q) : Value.int .u64 ((q : Int) / 256) = Value.int .u64 ((v / 256 ^ (k + 1) : Nat) : Int) := by
  rw [Nat.pow_succ, ← Nat.div_div_eq_div_mul, h]; simp
theorem low_row (v k q : Nat) (h : v / 256 ^ k = q) : (lowB (k + 1) v).map bv = (lowB k v).map bv ++ [Value.int .u8 ((q : Int) % 256)] := by
  rw [lowB_snoc, List.map_append, h]
  simp only [List.map_cons, List.map_nil, bv, toNat_ofNat_mod]
  simp

set_option maxHeartbeats 400000 in
theorem rlow_any (v n : Nat) (w : World) (hn : n ≤ 8) (hv : v < 18446744073709551616) :
    Calls Try.prog 45 #[.int .u64 (v : Int), .int .i64 (n : Int)] w fun e w' => ∃ x, e = .returned x ∧ w'.ownsRow w.heap.size 5 1 x n ((lowB n v).map bv) ∧ Below w.heap.size w w' := by
  obtain ⟨i0, hi, hz0, hz1, hz2⟩ := info_parts u8_info
  go_enter Try.func45, Try.ntmps45
  go_wp2
  go_loopw [0, 5, 6] (fun q x i wr => ∃ k : Nat, k ≤ n ∧ i = .int .i64 k ∧ q = .int .u64 ((v / 256 ^ k : Nat) : Int) ∧ wr.ownsRow w.heap.size 5 1 x k ((lowB k v).map bv) ∧ Below w.heap.size w wr) (fun _ _ i _ => n - (intOf i).toNat)
  case atStart => exact ⟨0, Nat.zero_le _, rfl, by simp, World.ownsRow_nil _ _ _ _, Below.refl _ _⟩
  case round =>
    obtain ⟨k, hk, rfl, rfl, hown, hb⟩ := hrel
    by_cases hlt : k < n
    · have hq : v / 256 ^ k < 18446744073709551616 := Nat.lt_of_le_of_lt (Nat.div_le_self _ _) hv
      generalize hqq : v / 256 ^ k = q at *
      have HQ := Lib.hid hqq
      clear hqq
      have hm : 0 ≤ (q : Int) % 256 ∧ (q : Int) % 256 ≤ 255 := by omega
      obtain ⟨hm0, hm1⟩ := hm
      go_wp2_with (first
        | (at_builtin; refine wpList_append_own _ rfl _ _ 24 rfl w.heap.size 5 i0 (.int .u8 0) 1 1 Try.underlying24 hi hz0 hz1 hz2 rfl (by decide) _ _ _ rfl (hown.alloc _) ⟨wr.heap.size, 0, none⟩ 1 1 [.int .u8 ((q : Int) % 256)] rfl rfl ?c1 ?c2 ?c3 ?c4 ?c5 ?_))
      case c1 =>
        intro j u hj
        match j, hj with
        | 0, hj => simp at hj; subst hj; simp [Addr.add]
      case c2 => intro u hu; simp at hu; subst hu; rfl
      case c3 => unfold maxLen; omega
      case c4 => omega
      case c5 => have := hb.size; simp; omega
      intro x' w1 hown' hgrow _
      have hb1 : Below w.heap.size w w1 := (hb.alloc hb.size _).grown hgrow (by have := hb.size; simp; omega) (fun j hj => (hown.lt j hj).1)
      have Hown := Lib.hid hown'
      clear hown' hgrow
      go_wp2
      go_roundw
      case rel => exact ⟨k + 1, by omega, by go_num, low_div v k q HQ.out, by rw [low_row v k q HQ.out]; exact Hown.out, hb1⟩
      case measure => simp [intOf]; omega
    · go_wp2
      go_ret
      obtain rfl : k = n := by omega
      exact ⟨_, rfl, hown, hb⟩

theorem rlow8 (v : Nat) (w : World) (hv : v < 18446744073709551616) :
    Calls Try.prog 45 #[.int .u64 (v : Int), .int .i64 8] w fun e w' => ∃ g cap, e = .returned (.slice (some ⟨g, 0, none⟩) 8 cap) ∧ w.heap.size ≤ g ∧ Rd w' w'.heap.size (some ⟨g, 0, none⟩) 8 (lowB 8 v) ∧ Below w.heap.size w w' := by
  refine (rlow_any v 8 w (by omega) hv).mono ?_
  rintro e w' ⟨x, rfl, hown, hb⟩
  obtain ⟨g, cap, rfl, _, hr⟩ := own_rd hown (by omega)
  exact ⟨g, cap, rfl, (hown.lt g rfl).1, hr, hb⟩

section
variable (w : World)
set_option maxHeartbeats 400000 in
theorem rissize_any (n : Int) (hn : -9223372036854775808 ≤ n ∧ n ≤ 9223372036854775807) (b : Bool) (hb : isSz n = b) :
    Calls Try.prog 26 #[.int .i64 n] w fun e w' => e = .returned (.bool b) ∧ w = w' := by
  by_cases h1 : 32 ≤ n
  · by_cases h2 : n ≤ 16384
    · have e : (n % 16 == 0) = b := by rw [← hb]; simp [isSz, h1, h2]
      have HE := Lib.hid e
      clear hb e
      go_enter Try.func26, Try.ntmps26
      go_wp2
      go_ret
      exact ⟨rt_b HE.out, rfl⟩
    · obtain rfl : false = b := by rw [← hb]; simp [isSz, h2]
      clear hb
      go_enter Try.func26, Try.ntmps26
      go_wp2
      go_ret
      exact ⟨rfl, rfl⟩
  · obtain rfl : false = b := by rw [← hb]; simp [isSz, h1]
    clear hb
    go_enter Try.func26, Try.ntmps26
    go_wp2
    go_ret
    exact ⟨rfl, rfl⟩

set_option maxHeartbeats 400000 in
theorem rpack_any (s : Int) (u : Bool) (hs : -9223372036854775808 ≤ s ∧ s ≤ 9223372036854775807) (m : Nat) (hm : packN s u = m) :
    Calls Try.prog 47 #[.int .i64 s, .bool u] w fun e w' => e = .returned (.int .u64 (m : Int)) ∧ w = w' := by
  cases hb : isSz s
  · obtain rfl : 0 = m := by rw [← hm]; simp [packN, hb]
    have HI := Lib.hid (rissize_any w s hs false hb)
    clear hm hb
    go_enter Try.func47, Try.ntmps47
    go_wp2_with fail
    with_reducible refine HI.out.mono ?_
    rintro e w1 ⟨rfl, rfl⟩
    go_wp2
    go_ret
    exact ⟨rfl, rfl⟩
  · have h := (isSz_iff s).1 hb
    have HI := Lib.hid (rissize_any w s hs true hb)
    obtain ⟨n, rfl⟩ : ∃ n : Nat, s = (n : Int) := ⟨s.toNat, by omega⟩
    have hn : n ≤ 16384 := by omega
    have HM : Hid (n + (if u = true then 1 else 0) = m) := (show _ = _ by rw [← hm]; simp [packN, hb])
    clear hm hb h
    cases u
    · go_enter Try.func47, Try.ntmps47
      go_wp2_with fail
      with_reducible refine HI.out.mono ?_
      rintro e w1 ⟨rfl, rfl⟩
      go_wp2
      go_ret
      exact ⟨rt_i (by have := HM.out; simp at this; omega), rfl⟩
    · go_enter Try.func47, Try.ntmps47
      go_wp2_with fail
      with_reducible refine HI.out.mono ?_
      rintro e w1 ⟨rfl, rfl⟩
      go_wp2
      go_ret
      exact ⟨rt_i (by have := HM.out; simp at this; omega), rfl⟩

/-- What Unpack tells. -/
def unpV (o : Option (Nat × Bool)) : Value := match o with
  | some (s, u) => .tuple #[.int .i64 (s : Int), .bool u, .bool true]
  | none => .tuple #[.int .i64 0, .bool false, .bool false]

set_option maxHeartbeats 400000 in
theorem runpack_any (v : Nat) (hv : v < 18446744073709551616) :
    Calls Try.prog 56 #[.int .u64 (v : Int)] w fun e w' => e = .returned (unpV (unpN v)) ∧ w = w' := by
  by_cases h0 : 20000 < v
  · have e : unpN v = none := by unfold unpN; rw [if_neg (by omega)]
    rw [e]
    clear e
    go_enter Try.func56, Try.ntmps56
    go_wp2
    go_ret3
    exact ⟨rfl, rfl⟩
  · obtain ⟨s, hs⟩ : ∃ s : Nat, v - v % 2 = s := ⟨_, rfl⟩
    have hs2 : (v : Int) - (v : Int) % 2 = (s : Int) := by omega
    cases hb : isSz (s : Int)
    · have e : unpN v = none := by unfold unpN; rw [hs, if_neg (by simp [hb])]
      rw [e]
      have HI := Lib.hid (rissize_any w (s : Int) (by omega) false hb)
      have HS := Lib.hid hs2
      clear e hs hb hs2
      go_enter Try.func56, Try.ntmps56
      go_wp2_with fail
      rw [HS.out]
      with_reducible refine HI.out.mono ?_
      rintro e w1 ⟨rfl, rfl⟩
      go_wp2
      go_ret3
      exact ⟨rfl, rfl⟩
    · have e : unpN v = some (s, v % 2 == 1) := by unfold unpN; rw [hs, if_pos ⟨by omega, hb⟩]
      rw [e]
      have HI := Lib.hid (rissize_any w (s : Int) (by omega) true hb)
      have HS := Lib.hid hs2
      have HB : Hid (((v : Int) % 2 == 1) = (v % 2 == 1)) := (show _ = _ by
        rw [Bool.eq_iff_iff, beq_iff_eq, beq_iff_eq]; omega)
      clear e hs hb hs2
      go_enter Try.func56, Try.ntmps56
      go_wp2_with fail
      rw [HS.out]
      with_reducible refine HI.out.mono ?_
      rintro e w1 ⟨rfl, rfl⟩
      go_wp2
      go_ret3
      refine ⟨?_, rfl⟩
      rw [← HB.out]
      rfl

/-- What Need tells. -/
def needV (o : Option Nat) : Value := match o with
  | some s => .tuple #[.int .i64 (s : Int), .bool true]
  | none => .tuple #[.int .i64 0, .bool false]

set_option maxHeartbeats 1000000 in
theorem rclass_any (s : Int) (hs : -9223372036854775808 ≤ s ∧ s ≤ 9223372036854775807) (c : Int) (hc : classI s = c) :
    Calls Try.prog 9 #[.int .i64 s] w fun e w' => e = .returned (.int .i64 c) ∧ w = w' := by
  cases hb : isSz s
  · obtain rfl : -1 = c := by rw [← hc]; simp [classI, hb]
    have HI := Lib.hid (rissize_any w s hs false hb)
    clear hc hb
    go_enter Try.func9, Try.ntmps9
    go_wp2_with fail
    with_reducible refine HI.out.mono ?_
    rintro e w1 ⟨rfl, rfl⟩
    go_wp2
    go_ret
    exact ⟨rfl, rfl⟩
  · have h := (isSz_iff s).1 hb
    have HI := Lib.hid (rissize_any w s hs true hb)
    have hc' : classI s = c := hc
    unfold classI at hc
    rw [if_neg (by simp [hb])] at hc
    by_cases h0 : s ≤ 256
    · rw [if_pos h0] at hc
      have HC := Lib.hid hc
      clear hc hc' hb
      go_enter Try.func9, Try.ntmps9
      go_wp2_with fail
      with_reducible refine HI.out.mono ?_
      rintro e w1 ⟨rfl, rfl⟩
      go_wp2
      go_ret
      exact ⟨rt_i HC.out, rfl⟩
    · rw [if_neg h0] at hc
      have HC := Lib.hid hc
      clear hc hc' hb
      go_enter Try.func9, Try.ntmps9
      go_wp2_with fail
      with_reducible refine HI.out.mono ?_
      rintro e w1 ⟨rfl, rfl⟩
      go_wp2
      go_loop [4, 5] (fun a t => ∃ k P : Nat, k ≤ 6 ∧ P = 2 ^ k ∧ a = .int .i64 ((15 + k : Nat) : Int) ∧ t = .int .i64 ((512 * P : Nat) : Int) ∧ (256 * P : Int) ≤ s) (fun a _ => 21 - (intOf a).toNat)
      case atStart => exact ⟨0, 1, by omega, rfl, rfl, rfl, by omega⟩
      case round =>
        obtain ⟨k, P, hk, hP, rfl, rfl, hlo⟩ := hrel
        have hP6 : P ≤ 64 := by rw [hP]; exact Nat.pow_le_pow_right (by omega) hk
        by_cases hge : (512 * P : Int) ≤ s
        · have hk5 : k < 6 := by
            rcases Nat.lt_or_ge k 6 with h | h
            · exact h
            · obtain rfl : k = 6 := by omega
              rw [hP] at hge; omega
          have HP := Lib.hid hP
          have g1 : ((512 * P : Nat) : Int) ≤ s := by omega
          clear hP
          go_wp2
          go_round
          case rel => exact ⟨k + 1, 2 * P, by omega, by rw [Nat.pow_succ, HP.out]; omega, by go_num, by go_num, by omega⟩
          case measure => simp [intOf]; omega
        · have g1 : ¬ ((512 * P : Nat) : Int) ≤ s := by omega
          have HR : Hid (((15 + k : Nat) : Int) = c) := (show _ = _ by
            rw [← HC.out]
            match k, hk, hP with
            | 0, _, hP => simp at hP; subst hP; repeat' split
                          all_goals omega
            | 1, _, hP => simp at hP; subst hP; repeat' split
                          all_goals omega
            | 2, _, hP => simp at hP; subst hP; repeat' split
                          all_goals omega
            | 3, _, hP => simp at hP; subst hP; repeat' split
                          all_goals omega
            | 4, _, hP => simp at hP; subst hP; repeat' split
                          all_goals omega
            | 5, _, hP => simp at hP; subst hP; repeat' split
                          all_goals omega
            | 6, _, hP => simp at hP; subst hP; repeat' split
                          all_goals omega)
          clear hP HC
          go_wp2
          go_ret
          exact ⟨rt_i HR.out, rfl⟩
end
end Go.Proofs.Ytjokbjmfnidmjaa

/- The contracts of the program's tags: isSize, Pack, Unpack; the head of the laws of layer 6. -/
namespace Go.Proofs.Ytjokbjmfnidmjaa
open Go.RowKit

theorem andnot_one (v : Nat) (hv : v ≤ 16385) : wrap64 (bits .andNot .u64 (v : Int) 1) = ((v - v % 2 : Nat) : Int) := by
  have h : bits .andNot .u64 (v : Int) ((1 : Nat) : Int) = ((v &&& (18446744073709551615 - 1) : Nat) : Int) := by
    have hx : v &&& (18446744073709551615 - 1) < 2 ^ 64 := Nat.and_lt_two_pow _ (by omega)
    show IntKind.u64.wrap ((BitVec.ofInt 64 (v : Int) &&& ~~~BitVec.ofInt 64 ((1 : Nat) : Int)).toNat : Int) = _
    rw [BitVec.toNat_and, BitVec.toNat_not, ofInt_u64 v (by omega), ofInt_u64 1 (by omega), IntKind.wrap_u64]
    have e : 2 ^ 64 - 1 - 1 = 18446744073709551615 - 1 := by omega
    rw [e]
    omega
  have h2 : v &&& (18446744073709551615 - 1) = v - v % 2 := by
    rw [nat_hi64_1, Nat.mod_eq_of_lt (by omega)]
    omega
  have h3 : bits .andNot .u64 (v : Int) 1 = ((v - v % 2 : Nat) : Int) := by rw [← h2]; exact h
  rw [h3]
  have h4 := Nat.sub_le v (v % 2)
  unfold wrap64
  omega
theorem and_one (v : Nat) (hv : v < 18446744073709551616) : (bits .and .u64 (v : Int) 1 == 1) = (v % 2 == 1) := by
  have h : bits .and .u64 (v : Int) 1 = ((v &&& 1 : Nat) : Int) := u64_and_nat v 1 hv (by omega)
  rw [h, Nat.and_one_is_mod, Bool.eq_iff_iff, beq_iff_eq, beq_iff_eq]
  omega

section
variable (w : World)
set_option maxHeartbeats 400000 in
theorem tissize_any (n : Int) (hn : -9223372036854775808 ≤ n ∧ n ≤ 9223372036854775807) (b : Bool) (hb : isSz n = b) :
    Calls Try.prog 65 #[.int .i64 n] w fun e w' => e = .returned (.bool b) ∧ w = w' := by
  by_cases h1 : 32 ≤ n
  · by_cases h2 : n ≤ 16384
    · have e : (n % 16 == 0) = b := by rw [← hb]; simp [isSz, h1, h2]
      have HE := Lib.hid e
      clear hb e
      go_enter Try.func65, Try.ntmps65
      go_wp2
      go_ret
      exact ⟨rt_b HE.out, rfl⟩
    · obtain rfl : false = b := by rw [← hb]; simp [isSz, h2]
      clear hb
      go_enter Try.func65, Try.ntmps65
      go_wp2
      go_ret
      exact ⟨rfl, rfl⟩
  · obtain rfl : false = b := by rw [← hb]; simp [isSz, h1]
    clear hb
    go_enter Try.func65, Try.ntmps65
    go_wp2
    go_ret
    exact ⟨rfl, rfl⟩

set_option maxHeartbeats 400000 in
theorem tpack_any (s : Int) (u : Bool) (hs : -9223372036854775808 ≤ s ∧ s ≤ 9223372036854775807) (m : Nat) (hm : packN s u = m) :
    Calls Try.prog 37 #[.int .i64 s, .bool u] w fun e w' => e = .returned (.int .u64 (m : Int)) ∧ w = w' := by
  cases hb : isSz s
  · obtain rfl : 0 = m := by rw [← hm]; simp [packN, hb]
    have HI := Lib.hid (tissize_any w s hs false hb)
    clear hm hb
    go_enter Try.func37, Try.ntmps37
    go_wp2_with fail
    with_reducible refine HI.out.mono ?_
    rintro e w1 ⟨rfl, rfl⟩
    go_wp2
    go_ret
    exact ⟨rfl, rfl⟩
  · have h := (isSz_iff s).1 hb
    have HI := Lib.hid (tissize_any w s hs true hb)
    obtain ⟨n, rfl⟩ : ∃ n : Nat, s = (n : Int) := ⟨s.toNat, by omega⟩
    have hn : n ≤ 16384 := by omega
    have HM : Hid (n + (if u = true then 1 else 0) = m) := (show _ = _ by rw [← hm]; simp [packN, hb])
    clear hm hb h
    cases u
    · go_enter Try.func37, Try.ntmps37
      go_wp2_with fail
      with_reducible refine HI.out.mono ?_
      rintro e w1 ⟨rfl, rfl⟩
      go_wp2
      go_ret
      exact ⟨rt_i (by have := HM.out; simp at this; omega), rfl⟩
    · go_enter Try.func37, Try.ntmps37
      go_wp2_with fail
      with_reducible refine HI.out.mono ?_
      rintro e w1 ⟨rfl, rfl⟩
      go_wp2
      go_ret
      exact ⟨rt_i (by have := HM.out; simp at this; omega), rfl⟩

set_option maxHeartbeats 400000 in
theorem tunpack_any (v : Nat) (hv : v < 18446744073709551616) :
    Calls Try.prog 71 #[.int .u64 (v : Int)] w fun e w' => e = .returned (unpV (unpN v)) ∧ w = w' := by
  by_cases h0 : 16385 < v
  · have e : unpN v = none := by
      unfold unpN
      rw [if_neg]
      rintro ⟨_, h⟩
      have := (isSz_iff _).1 h
      omega
    rw [e]
    clear e
    go_enter Try.func71, Try.ntmps71
    go_wp2
    go_ret3
    exact ⟨rfl, rfl⟩
  · obtain ⟨s, hs⟩ : ∃ s : Nat, v - v % 2 = s := ⟨_, rfl⟩
    have hs2 : wrap64 (bits .andNot .u64 (v : Int) 1) = (s : Int) := by rw [andnot_one v (by omega), hs]
    cases hb : isSz (s : Int)
    · have e : unpN v = none := by unfold unpN; rw [hs, if_neg (by simp [hb])]
      rw [e]
      have HI := Lib.hid (tissize_any w (s : Int) (by have := Nat.sub_le v (v % 2); omega) false hb)
      have HS := Lib.hid hs2
      clear e hs hb hs2
      go_enter Try.func71, Try.ntmps71
      go_wp2_with fail
      rw [HS.out]
      with_reducible refine HI.out.mono ?_
      rintro e w1 ⟨rfl, rfl⟩
      go_wp2
      go_ret3
      exact ⟨rfl, rfl⟩
    · have e : unpN v = some (s, v % 2 == 1) := by unfold unpN; rw [hs, if_pos ⟨by omega, hb⟩]
      rw [e]
      have HI := Lib.hid (tissize_any w (s : Int) (by have := Nat.sub_le v (v % 2); omega) true hb)
      have HS := Lib.hid hs2
      have HB := Lib.hid (and_one v hv)
      clear e hs hb hs2
      go_enter Try.func71, Try.ntmps71
      go_wp2_with fail
      rw [HS.out]
      with_reducible refine HI.out.mono ?_
      rintro e w1 ⟨rfl, rfl⟩
      go_wp2
      go_ret3
      refine ⟨?_, rfl⟩
      rw [← HB.out]
      rfl

end
end Go.Proofs.Ytjokbjmfnidmjaa
