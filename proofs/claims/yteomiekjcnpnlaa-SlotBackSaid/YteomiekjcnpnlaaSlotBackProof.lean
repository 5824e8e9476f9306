/- Proved: for every input the law SlotBack returns true, and each argument reads afterwards as it read before (Rows.SlotBackSaid). Conditions: none beyond the statement's own.
   The walk is made of the contracts in the texts that are imported. -/
import Derived.Test.YteomiekjcnpnlaaRows
import Derived.Test.YteomiekjcnpnlaaLaw17b
import Derived.Test.YteomiekjcnpnlaaOpenI
import Derived.WalkKit
import Derived.ProofKit
import Derived.OpenShut
import Derived.ShutString
import Derived.ChangeOld
import Derived.Below
namespace Go.Proofs.Yteomiekjcnpnlaa.slotBack
open Go.ChangeShapes Go.WideShapes Go.ChangeAt Go.RowKit

theorem own : ownKnob Try.prog.godebug = none := by kernel_rfl
theorem laidOut : laidOutB Try.prog = true := by kernel_rfl

/-- The walk. -/
theorem walk (w : World) (a0 : Int) (w0 : 0 ≤ a0 ∧ a0 ≤ 18446744073709551615) (a1 : Int) (w1 : 0 ≤ a1 ∧ a1 ≤ 18446744073709551615) (a2 : Int) (w2 : 0 ≤ a2 ∧ a2 ≤ 4294967295) (a3 : Option Addr) (cap3 : Nat) (b3 : List UInt8) (r3 : Rd w w.heap.size a3 b3.length b3) (c3 : b3.length ≤ cap3) (_m3 : cap3 ≤ maxLen) (_n3 : a3 = none → cap3 = 0) (a4 : Int) (w4 : -9223372036854775808 ≤ a4 ∧ a4 ≤ 9223372036854775807) (a5 : Int) (w5 : 0 ≤ a5 ∧ a5 ≤ 4294967295) :
    Calls Try.prog 4 #[.int .u64 a0, .int .u64 a1, .int .u32 a2, .slice a3 b3.length cap3, .int .i64 a4, .int .u32 a5] w fun e w' => e = .returned (.bool true) ∧ Below w.heap.size w w' := by
  obtain ⟨g, rfl⟩ : ∃ v : Nat, a0 = (v : Int) := ⟨a0.toNat, by omega⟩
  obtain ⟨n, rfl⟩ : ∃ v : Nat, a1 = (v : Int) := ⟨a1.toNat, by omega⟩
  obtain ⟨s, rfl⟩ : ∃ v : Nat, a2 = (v : Int) := ⟨a2.toNat, by omega⟩
  obtain ⟨v, rfl⟩ : ∃ v : Nat, a5 = (v : Int) := ⟨a5.toNat, by omega⟩
  by_cases h : 2000 < b3.length ∨ a4 < 0 ∨ 508 < a4
  · exact sb_guard w g n s (by omega) (by omega) (by omega) a3 cap3 b3 r3 c3 a4 w4 v (by omega) h
  · cases hy : slRec b3 with
    | false =>
      cases hk : slOk g n with
      | false => exact sb_nn w g n s (by omega) (by omega) (by omega) a3 cap3 b3 r3 c3 a4 w4 v (by omega) (by omega) (by omega) (by omega) hy hk
      | true =>
        by_cases h0 : v = 0
        · exact sb_n0 w g n s (by omega) (by omega) (by omega) a3 cap3 b3 r3 c3 a4 w4 v (by omega) (by omega) (by omega) (by omega) hy hk h0
        · exact sb_nt w g n s (by omega) (by omega) (by omega) a3 cap3 b3 r3 c3 a4 w4 v (by omega) (by omega) (by omega) (by omega) hy hk h0
    | true =>
      cases hk : slOk g n with
      | false => exact sb_yn w g n s (by omega) (by omega) (by omega) a3 cap3 b3 r3 c3 a4 w4 v (by omega) (by omega) (by omega) (by omega) hy hk
      | true =>
        by_cases h0 : v = 0
        · exact sb_y0 w g n s (by omega) (by omega) (by omega) a3 cap3 b3 r3 c3 a4 w4 v (by omega) (by omega) (by omega) (by omega) hy hk h0
        · exact sb_yt w g n s (by omega) (by omega) (by omega) a3 cap3 b3 r3 c3 a4 w4 v (by omega) (by omega) (by omega) (by omega) hy hk h0

set_option maxRecDepth 100000 in
theorem lifted (os : Os) (started : os.Started) (H : Type) (enc : TypeId × Value → H) :
    ReturnsInHanded {} Try.checked os 4 .any (Rows.slotBackSpec.pre6 enc Try.prog Try.f4 Rows.slotBackRow.domain false) (Rows.slotBackSpec.post enc Try.prog Try.f4 false true false false) := by
  refine returnsInHanded_of_change (C := Try.checked) own started (by kernel_rfl) Try.func4
    (ChangeSpec.witness6 (enc := enc) (C := Try.checked) false ⟨#[], #[.int .u64 0, .int .u64 0, .int .u32 0, .slice none 0 0, .int .i64 0, .int .u32 0], []⟩ 8 (by kernel_rfl) (by kernel_rfl) (by kernel_rfl) (by kernel_rfl)) ?_
  intro W base args ds gs before hval0 hW hcnd _
  have hval : ∀ (j : Nat) t v, Try.f4.params[j]? = some t → args[j]? = some v → Value.okWide Try.prog W .any base t v := hval0
  have hW' := hW
  obtain ⟨p, q, hA0, hV, rfl, hfz, hnd⟩ := hW
  have hA : DataW.TrodAll enc Try.prog W 0 (fun _ => true) true Try.f4.params.toList args.toList ds p := hA0
  rw [Try.params4] at hA hval
  obtain ⟨v0, vs0, d0, ds0, p0, q0, hargs, rfl, rfl, h0, z0⟩ := trodAll_cons hA
  obtain ⟨v1, vs1, d1, ds1, p1, q1, rfl, rfl, rfl, h1, z1⟩ := trodAll_cons z0
  obtain ⟨v2, vs2, d2, ds2, p2, q2, rfl, rfl, rfl, h2, z2⟩ := trodAll_cons z1
  obtain ⟨v3, vs3, d3, ds3, p3, q3, rfl, rfl, rfl, h3, z3⟩ := trodAll_cons z2
  obtain ⟨v4, vs4, d4, ds4, p4, q4, rfl, rfl, rfl, h4, z4⟩ := trodAll_cons z3
  obtain ⟨v5, vs5, d5, ds5, p5, q5, rfl, rfl, rfl, h5, z5⟩ := trodAll_cons z4
  obtain ⟨rfl, rfl, rfl⟩ := trodAll_nil z5
  obtain rfl : args = #[v0, v1, v2, v3, v4, v5] := by cases args; simp_all
  obtain ⟨rfl, rfl⟩ := trodVars_none hV
  obtain ⟨a0, rfl, rfl, rfl, w0⟩ := open_int Try.underlying22 (hval 0 22 v0 rfl rfl) h0
  obtain ⟨a1, rfl, rfl, rfl, w1⟩ := open_int Try.underlying22 (hval 1 22 v1 rfl rfl) h1
  obtain ⟨a2, rfl, rfl, rfl, w2⟩ := open_int Try.underlying23 (hval 2 23 v2 rfl rfl) h2
  obtain ⟨a3, len3, cap3, rfl⟩ := okWide_slice Try.underlying24 (hval 3 24 v3 rfl rfl)
  have kk3_ := h3
  have lt3 : ∀ x ∈ p3, x.block < W.heap.size := by obtain ⟨m, hm⟩ := kk3_; exact DataW.trod_lt m _ _ _ hm
  obtain ⟨a4, rfl, rfl, rfl, w4⟩ := open_int Try.underlying3 (hval 4 3 v4 rfl rfl) h4
  obtain ⟨a5, rfl, rfl, rfl, w5⟩ := open_int Try.underlying23 (hval 5 23 v5 rfl rfl) h5
  obtain ⟨b3, r3, c3, m3, n3⟩ : ∃ bs : List UInt8, Rd W W.heap.size a3 len3 bs ∧ len3 ≤ cap3 ∧ cap3 ≤ maxLen ∧ (a3 = none → cap3 = 0) := by
    obtain ⟨fuel, hf⟩ := h3
    exact open_byt hf
  obtain rfl : b3.length = len3 := r3.1
  clear hA0 hval0
  refine (walk W a0 (by have := bounds_u64 w0; omega) a1 (by have := bounds_u64 w1; omega) a2 (by have := bounds_u32 w2; omega) a3 cap3 b3 r3 c3 m3 n3 a4 (by have := bounds_i64 w4; omega) a5 (by have := bounds_u32 w5; omega)).mono fun e W' ⟨he, bel⟩ => ?_
  subst he
  exact ⟨_, rfl, _, _, _, [], _, [], hW', trodAll_mk1 (shut_bool Try.underlying4 _), (trodAll_cons_mk (shut_int Try.underlying22 w0) (trodAll_cons_mk (shut_int Try.underlying22 w1) (trodAll_cons_mk (shut_int Try.underlying23 w2) (trodAll_cons_mk (Below.trod laidOut (by kernel_rfl) (of_decide_eq_true (by kernel_rfl)) kk3_ bel lt3) (trodAll_cons_mk (shut_int Try.underlying3 w4) (trodAll_cons_mk (shut_int Try.underlying23 w5) trodAll_mk0)))))), rfl, bel.frame _, fun h => by cases h⟩

theorem over : Rows.slotBackRow.holds Try.pinned (OpenSpec.ofChange Rows.slotBackSpec) :=
  OpenClaim.holds_of_wide 4 Try.f4 rfl rfl rfl rfl rfl rfl rfl ⟨rfl, rfl, rfl, rfl, rfl⟩ rfl rfl rfl rfl rfl (by kernel_rfl) Try.func4 (by kernel_rfl)
    (of_decide_eq_true (by kernel_rfl)) (by unfold Func.isWrapper; first | (rw [if_pos (by decide +kernel)]; kernel_rfl) | (rw [if_neg (by decide +kernel)]; exact ⟨rfl, rfl⟩))
    (fun os started H enc _ => lifted os started H enc)

theorem proved : Rows.SlotBackSaid := over
#print axioms proved
end Go.Proofs.Yteomiekjcnpnlaa.slotBack
