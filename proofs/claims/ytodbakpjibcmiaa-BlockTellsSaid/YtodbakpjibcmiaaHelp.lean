/- The contracts of SetWord, and of the laws' words: Code, Bytes, Arena, Base. -/
import Derived.Test.YtodbakpjibcmiaaStore
import Derived.Test.YtodbakpjibcmiaaPut
namespace Go.Proofs.Ytodbakpjibcmiaa
open Go.RowKit

section
variable {w w1 w2 : World} {t : TypeId} {g base cap c B : Nat} {A : Option Addr} {bs : List UInt8}
theorem Became.after (h : Became t g base cap A bs w1 w2) (hb : Below w.heap.size w w1) : Became t g base cap A bs w w2 := by
  obtain ⟨A', c', h1, h2, h3⟩ := h
  refine ⟨A', c', h1, (Tch.of_below (S := foot g A) hb).trans h2 (fun _ _ h => h), h3.imp id fun h a ha => Nat.le_trans hb.size (h a ha)⟩
theorem Became.below (h : Became t g base cap A bs w w1) (hg : B ≤ g) (hA : ∀ a, A = some a → B ≤ a.block) (hB : B ≤ w.heap.size) :
    ∃ A' c', Ar w1 t g base cap A' c' bs ∧ Below B w w1 ∧ ∀ a, A' = some a → B ≤ a.block := by
  obtain ⟨A', c', h1, h2, h3⟩ := h
  refine ⟨A', c', h1, h2.below (fun k hk => ?_) hB, fun a ha => ?_⟩
  · rcases hk with rfl | ⟨a, e, rfl⟩
    · exact hg
    · exact hA a e
  · rcases h3 with h3 | h3
    · exact hA a (h3 ▸ ha)
    · exact Nat.le_trans hB (h3 a ha)

set_option maxRecDepth 100000 in
set_option maxHeartbeats 400000 in
theorem setword_ok (h : Ar w 73 g base cap A c bs) (hl : bs.length ≤ 1000000) (x d v : Nat) (hx : x < 18446744073709551616) (hv : v < 18446744073709551616) (h1 : base ≤ x) (hd : x - base = d) (h2 : d + 8 ≤ bs.length) :
    Calls Try.prog 32 #[.pointer (some ⟨g, 0, none⟩), .int .u64 (x : Int), .int .u64 (v : Int)] w fun e w' => e = .returned .nilIface ∧ Became 73 g base cap A (lay bs d (lowB 8 v)) w w' := by
  have HD := Lib.hid hd
  clear hd
  go_enter Try.func32, Try.ntmps32
  go_wp2_with fail
  refine (put_any v _ hv).mono ?_
  rintro e w1 ⟨rfl, hf, hb⟩
  have hr := hf.reads
  have HS := store_ok (h.below hb) hl x d (some ⟨w.heap.size, 0, none⟩) 8 (lowB 8 v) w1.heap.size hr hx h1 HD.out (by rw [lowB_length]; exact h2)
  rw [lowB_length] at HS
  have HS := Lib.hid HS
  have HB := Lib.hid hb
  clear hf hr hb
  go_wp2_with fail
  refine HS.out.mono ?_
  rintro e w2 ⟨rfl, hbe⟩
  have HE := Lib.hid (hbe.after HB.out)
  clear hbe
  go_wp2
  go_ret
  exact ⟨rfl, HE.out⟩

set_option maxRecDepth 100000 in
set_option maxHeartbeats 400000 in
theorem setword_no (h : Ar w 73 g base cap A c bs) (hl : bs.length ≤ 1000000) (x v : Nat) (hx : x < 18446744073709551616) (hv : v < 18446744073709551616) (h2 : base ≤ x → bs.length < x - base + 8) :
    Calls Try.prog 32 #[.pointer (some ⟨g, 0, none⟩), .int .u64 (x : Int), .int .u64 (v : Int)] w fun e w' => e = .returned (.iface 56 (.int .i64 2)) ∧ Below w.heap.size w w' := by
  have HD := Lib.hid h2
  clear h2
  go_enter Try.func32, Try.ntmps32
  go_wp2_with fail
  refine (put_any v _ hv).mono ?_
  rintro e w1 ⟨rfl, hf, hb⟩
  have HS := Lib.hid (store_no (h.below hb) hl x 8 (some ⟨w.heap.size, 0, none⟩) 8 hx (by omega) HD.out)
  have HB := Lib.hid hb
  clear hf hb
  go_wp2_with fail
  refine HS.out.mono ?_
  rintro e w2 ⟨rfl, rfl⟩
  go_wp2
  go_ret
  exact ⟨rfl, HB.out⟩
end

set_option maxRecDepth 100000 in
set_option maxHeartbeats 400000 in
theorem code_nil (w : World) : Calls Try.prog 15 #[.nilIface] w fun e w' => e = .returned (.int .i64 0) ∧ w = w' := by
  go_enter Try.func15, Try.ntmps15
  go_wp2
  go_ret
  exact ⟨rfl, rfl⟩

set_option maxRecDepth 100000 in
theorem code_eql (W : World) (k j : Int) : (binOp .eql 31 (.iface 56 (.int .i64 k)) (.iface 56 (.int .i64 j))).run Try.prog W = .ok (.bool (k == j)) W := by rfl

set_option maxRecDepth 100000 in
set_option maxHeartbeats 400000 in
theorem code_err (w : World) (k : Nat) (h1 : 1 ≤ k) (h2 : k ≤ 10) : Calls Try.prog 15 #[.iface 56 (.int .i64 (k : Int))] w fun e w' => e = .returned (.int .i64 (k : Int)) ∧ w = w' := by
  go_enter Try.func15, Try.ntmps15
  go_wp2
  go_loop [3] (fun i => ∃ j : Nat, 1 ≤ j ∧ j ≤ k ∧ i = .int .i64 j) (fun i => k - (intOf i).toNat)
  case atStart => exact ⟨1, by omega, h1, rfl⟩
  case round =>
    obtain ⟨j, hj1, hj2, rfl⟩ := hrel
    by_cases hlt : j < k
    · have q : ((k : Int) == (j : Int)) = false := by rw [beq_eq_false_iff_ne]; omega
      have q2 : ∀ W : World, (binOp .eql 31 (.iface 56 (.int .i64 (k : Int))) (.iface 56 (.int .i64 (j : Int)))).run Try.prog W = .ok (.bool false) W := fun W => by rw [code_eql, q]
      go_wp2
      go_round
      case rel => exact ⟨j + 1, by omega, by omega, by go_num⟩
      case measure => simp [intOf]; omega
    · obtain rfl : k = j := by omega
      have q2 : ∀ W : World, (binOp .eql 31 (.iface 56 (.int .i64 (k : Int))) (.iface 56 (.int .i64 (k : Int)))).run Try.prog W = .ok (.bool true) W := fun W => by rw [code_eql, beq_self_eq_true]
      go_wp2
      go_ret
      exact ⟨rfl, rfl⟩

section
variable {w : World} {g base cap c : Nat} {A : Option Addr} {bs : List UInt8}
set_option maxRecDepth 100000 in
set_option maxHeartbeats 400000 in
theorem bytes_any (h : Ar w 73 g base cap A c bs) (hl : bs.length ≤ 1000000) (hbase : base ≤ 4611686018427387904) :
    Calls Try.prog 18 #[.pointer (some ⟨g, 0, none⟩)] w fun e w' => NewRow bs w e w' := by
  have hk := load_ok h hl base bs.length 0 (by omega) (Nat.le_refl _) (by omega) (by omega)
  rw [List.drop_zero, List.take_length] at hk
  have HK := Lib.hid hk
  clear hk
  go_enter Try.func18, Try.ntmps18
  go_wp2_with fail
  refine (base_any h).mono ?_
  rintro e w1 ⟨rfl, rfl⟩
  go_wp2_with fail
  refine (len_any h).mono ?_
  rintro e w1 ⟨rfl, rfl⟩
  go_wp2_with fail
  refine HK.out.mono ?_
  rintro e w1 ⟨A', c', rfl, ho, hb⟩
  have HO := Lib.hid ho
  clear ho
  go_wp2
  go_ret
  exact ⟨A', c', rfl, HO.out, hb⟩
end

end Go.Proofs.Ytodbakpjibcmiaa
