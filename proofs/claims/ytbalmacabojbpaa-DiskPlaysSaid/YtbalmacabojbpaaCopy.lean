/- The contracts of an arena's calls: Copy, SetWord; of the laws' words: Code, Bytes, Arena, Base. -/
import Derived.Test.YtbalmacabojbpaaStore
import Derived.Test.YtbalmacabojbpaaPut
import Derived.StillTailTactics
namespace Go.Proofs.Ytbalmacabojbpaa
open Go.RowKit

theorem Became.of_drew {t : TypeId} {g base cap : Nat} {A : Option Addr} {bs : List UInt8} {w w' : World} (h : Became t g base cap A bs w.drew w') : Became t g base cap A bs w w' := by
  obtain ⟨A', c', h1, h2, h3⟩ := h
  exact ⟨A', c', h1, h2.of_drew, h3⟩

section
variable {w : World} {t : TypeId} {g base cap c : Nat} {A : Option Addr} {bs : List UInt8}
set_option maxRecDepth 100000 in
set_option maxHeartbeats 400000 in
theorem copy_no1 (h : Ar w 69 g base cap A c bs) (hl : bs.length ≤ 1000000) (x y n : Nat) (hx : x < 18446744073709551616) (h2 : base ≤ x → bs.length < x - base + n) :
    Calls Try.prog 42 #[.pointer (some ⟨g, 0, none⟩), .int .u64 (x : Int), .int .u64 (y : Int), .int .u64 (n : Int)] w fun e w' => e = .returned (.iface 95 (.int .i64 2)) ∧ w = w' := by
  have HP := Lib.hid (place_no h hl x n hx h2)
  clear h2
  go_enter Try.func42, Try.ntmps42
  go_wp2_with fail
  with_reducible refine HP.out.mono ?_
  rintro e w' ⟨rfl, rfl⟩
  go_wp2
  go_ret
  exact ⟨rfl, rfl⟩

set_option maxRecDepth 100000 in
set_option maxHeartbeats 400000 in
theorem copy_no2 (h : Ar w 69 g base cap A c bs) (hl : bs.length ≤ 1000000) (x y n d : Nat) (hx : x < 18446744073709551616) (hy : y < 18446744073709551616) (h1 : base ≤ x) (hd : x - base = d) (h2 : d + n ≤ bs.length) (h3 : base ≤ y → bs.length < y - base + n) :
    Calls Try.prog 42 #[.pointer (some ⟨g, 0, none⟩), .int .u64 (x : Int), .int .u64 (y : Int), .int .u64 (n : Int)] w fun e w' => e = .returned (.iface 95 (.int .i64 2)) ∧ w = w' := by
  have HP := Lib.hid (place_at h hl x n d hx h1 hd h2)
  have HQ := Lib.hid (place_no h hl y n hy h3)
  clear h3 hd
  go_enter Try.func42, Try.ntmps42
  go_wp2_with fail
  with_reducible refine HP.out.mono ?_
  rintro e w' ⟨rfl, rfl⟩
  go_wp2_with fail
  with_reducible refine HQ.out.mono ?_
  rintro e w' ⟨rfl, rfl⟩
  go_wp2
  go_ret
  exact ⟨rfl, rfl⟩

set_option maxRecDepth 100000 in
set_option maxHeartbeats 1000000 in
theorem copy_ok (h : Ar w 69 g base cap A c bs) (hl : bs.length ≤ 1000000) (x y n d f : Nat) (hx : x < 18446744073709551616) (hy : y < 18446744073709551616) (h1 : base ≤ x) (hd : x - base = d) (h2 : d + n ≤ bs.length) (h3 : base ≤ y) (hf : y - base = f) (h4 : f + n ≤ bs.length) (hn : 0 < n) :
    Calls Try.prog 42 #[.pointer (some ⟨g, 0, none⟩), .int .u64 (x : Int), .int .u64 (y : Int), .int .u64 (n : Int)] w fun e w' => e = .returned .nilIface ∧ Became 69 g base cap A (lay bs d ((bs.drop f).take n)) w w' := by
  have HP := Lib.hid (place_at h hl x n d hx h1 hd h2)
  have HQ := Lib.hid (place_at h hl y n f hy h3 hf h4)
  clear hd hf
  have c2 := h.c2
  have hle := h.le
  have hlen : ((bs.drop f).take n).length = n := by simp; omega
  obtain ⟨ys, hys⟩ : ∃ ys, (bs.drop f).take n = ys := ⟨_, rfl⟩
  rcases A with _ | ad
  · obtain ⟨rfl, _⟩ := h.none_
    rw [List.length_nil] at h2
    omega
  · obtain ⟨h', rfl, cur, hrow, _, hmax, hsz, htake⟩ := h.row rfl
    unfold maxLen at hmax
    have hrs := h.reads.sub f n h4
    rw [hys] at hlen hrs ⊢
    rw [Nat.zero_add] at hrs
    have HF := Lib.hid ((h.drew).over (by decide) rfl hrow hsz htake d ys (by omega))
    have HFIT : Hid (d + (ys.map bv).length ≤ cur.size) := (show _ ≤ _ by simp; omega)
    have HSRC := Lib.hid (rd_cells hrs.drew)
    have HN : Hid ((ys.map bv).length = Nat.min n n) := by
      show _ = _
      rw [List.length_map, hlen]
      exact (Nat.min_self n).symm
    have hdc : ¬ c = d := by omega
    have hfc : ¬ c = f := by omega
    have HROW : Hid (w.drew.heap[h']? = some (.cells cur 5 (0, 0))) := hrow
    have HL := Lib.hid hlen
    clear hrow hsz htake hrs hys hlen
    go_enter Try.func42, Try.ntmps42
    go_wp2_with fail
    with_reducible refine HP.out.mono ?_
    rintro e w' ⟨rfl, rfl⟩
    go_wp2_with fail
    with_reducible refine HQ.out.mono ?_
    rintro e w' ⟨rfl, rfl⟩
    go_wp2_with fail
    have e1 : IntKind.u64.wrap ((d : Int) + (n : Int)) = (d : Int) + (n : Int) := IntWalk.u64_in _ (by omega)
    have e2 : IntKind.u64.wrap ((f : Int) + (n : Int)) = (f : Int) + (n : Int) := IntWalk.u64_in _ (by omega)
    have k1 : 0 ≤ (d : Int) + (n : Int) := by omega
    have k2 : (d : Int) + (n : Int) ≤ (c : Int) := by omega
    have k3 : ((d : Int) + (n : Int)).toNat = d + n := by omega
    have k4 : 0 ≤ (f : Int) + (n : Int) := by omega
    have k5 : (f : Int) + (n : Int) ≤ (c : Int) := by omega
    have k6 : ((f : Int) + (n : Int)).toNat = f + n := by omega
    go_still_tail 18, (by kernel_rfl)
    clear k1 k2 k3 k4 k5 k6 e1 e2
    change wpList _ _ _ _ _ w.drew
    refine wpList_copy_own rfl (.tmp 40) (.tmp 49) 29 29 rfl 5 Try.underlying29 (by kernel_rfl) h' d n (c - d) ⟨h', f, none⟩ n (c - f) ?c1 ?c2 cur 5 HROW.out (ys.map bv) HN.out HSRC.out HFIT.out (bv_one ys) ?_
    case c1 => rfl
    case c2 => rfl
    have HF2 := Lib.hid (show Became 69 g base cap (some ⟨h', 0, none⟩) (lay bs d ys) w _ from HF.out.of_drew)
    generalize w.drew.setRow h' _ = w2 at HF2 ⊢
    go_wp2
    go_ret
    exact ⟨rfl, HF2.out⟩

set_option maxRecDepth 100000 in
set_option maxHeartbeats 1000000 in
theorem copy_zero (h : Ar w 69 g base cap A c bs) (hl : bs.length ≤ 1000000) (x y d f : Nat) (hx : x < 18446744073709551616) (hy : y < 18446744073709551616) (h1 : base ≤ x) (hd : x - base = d) (h2 : d ≤ bs.length) (h3 : base ≤ y) (hf : y - base = f) (h4 : f ≤ bs.length) :
    Calls Try.prog 42 #[.pointer (some ⟨g, 0, none⟩), .int .u64 (x : Int), .int .u64 (y : Int), .int .u64 0] w fun e w' => e = .returned .nilIface ∧ Became 69 g base cap A bs w w' := by
  have HP := Lib.hid (place_at h hl x 0 d hx h1 hd h2)
  have HQ := Lib.hid (place_at h hl y 0 f hy h3 hf h4)
  clear hd hf
  have c2 := h.c2
  have hle := h.le
  have HF : Hid (Became 69 g base cap A bs w w.drew) := ⟨A, c, h.drew, (Tch.refl _ _).drew, .inl rfl⟩
  have hz : A = none ∨ ∃ ad, A = some ad := by cases A <;> simp
  have e1 : IntKind.u64.wrap (d : Int) = (d : Int) := IntWalk.u64_in _ (by omega)
  have e2 : IntKind.u64.wrap (f : Int) = (f : Int) := IntWalk.u64_in _ (by omega)
  have k2 : (d : Int) ≤ (c : Int) := by omega
  have k5 : (f : Int) ≤ (c : Int) := by omega
  have k7 : d ≤ c := by omega
  have k8 : f ≤ c := by omega
  have E1 := Lib.hid e1
  have E2 := Lib.hid e2
  clear e1 e2
  rcases hz with rfl | ⟨ad, rfl⟩
  all_goals
    go_enter Try.func42, Try.ntmps42
    go_wp2_with fail
    refine HP.out.mono ?_
    rintro e w' ⟨rfl, rfl⟩
    go_wp2_with fail
    refine HQ.out.mono ?_
    rintro e w' ⟨rfl, rfl⟩
    go_wp2_with fail
    have e1 := E1.out
    have e2 := E2.out
    go_still_tail 18, (by kernel_rfl)
    clear e1 e2
    change wpList _ _ _ _ _ w.drew
    refine wpList_copy_nothing rfl (.tmp 40) (.tmp 49) 29 29 rfl 5 Try.underlying29 (by kernel_rfl) _ _ _ _ _ _ rfl rfl (by simp) ?_
    generalize w.drew = w2 at HF ⊢
    go_wp2
    all_goals go_ret
    all_goals exact ⟨rfl, HF.out⟩
end
end Go.Proofs.Ytbalmacabojbpaa
