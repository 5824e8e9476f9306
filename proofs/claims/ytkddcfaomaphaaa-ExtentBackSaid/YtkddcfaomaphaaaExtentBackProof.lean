/- Proved: for every input the law ExtentBack returns true, and each argument reads afterwards as it read before (Rows.ExtentBackSaid). Conditions: none beyond the statement's own.
   The walk is made of the contracts in the texts that are imported. -/
import Derived.Test.YtkddcfaomaphaaaRows
import Derived.Test.YtkddcfaomaphaaaExt5
import Derived.Test.YtkddcfaomaphaaaOpen
import Derived.WalkKit
import Derived.ProofKit
import Derived.OpenShut
import Derived.ShutString
import Derived.ChangeOld
import Derived.Below
namespace Go.Proofs.Ytkddcfaomaphaaa.extentBack
open Go.ChangeShapes Go.WideShapes Go.ChangeAt Go.RowKit

theorem own : ownKnob Try.prog.godebug = none := by kernel_rfl
theorem laidOut : laidOutB Try.prog = true := by kernel_rfl

/-- The walk. -/
theorem walk (w : World) (a0 : Int) (w0 : -9223372036854775808 ≤ a0 ∧ a0 ≤ 9223372036854775807) (a1 : Int) (w1 : -9223372036854775808 ≤ a1 ∧ a1 ≤ 9223372036854775807) (a2 : Option Addr) (cap2 : Nat) (b2 : List UInt8) (r2 : Rd w w.heap.size a2 b2.length b2) (c2 : b2.length ≤ cap2) (m2 : cap2 ≤ maxLen) (_n2 : a2 = none → cap2 = 0) (a3 : Bool) :
    Calls Try.prog 4 #[.int .i64 a0, .int .i64 a1, .slice a2 b2.length cap2, .bool a3] w fun e w' => e = .returned (.bool true) ∧ Below w.heap.size w w' := by
  unfold maxLen at m2
  by_cases hs : a0 < 2 ∨ 128 < a0
  · refine back_none w a0 a1 a2 b2.length cap2 a3 hs w0 _ rfl _ rfl ?_
    simp only [decide_eq_true_eq, decide_eq_false_iff_not]
    omega
  · obtain ⟨N, rfl⟩ : ∃ N : Nat, a0 = (N : Int) := ⟨a0.toNat, by omega⟩
    by_cases hl : 70000 < b2.length
    · exact back_long w N (by omega) (by omega) a1 a2 b2.length cap2 a3 hl (by omega)
    · by_cases hfit : a1 < 0 ∨ (N : Int) < a1 + need b2.length
      · exact back_arg w N (by omega) (by omega) a1 a2 cap2 b2 r2 c2 (by omega) (by omega) a3 hfit
      · obtain ⟨p, rfl⟩ : ∃ p : Nat, a1 = (p : Int) := ⟨a1.toNat, by omega⟩
        cases a3
        · exact back_false w N (by omega) (by omega) p a2 cap2 b2 r2 c2 (by omega) (by omega) (need b2.length) rfl (by omega)
        · exact back_true w N (by omega) (by omega) p a2 cap2 b2 r2 c2 (by omega) (by omega) (need b2.length) rfl (by omega)

set_option maxRecDepth 100000 in
theorem lifted (os : Os) (started : os.Started) (H : Type) (enc : TypeId × Value → H) :
    ReturnsInHanded {} Try.checked os 4 .any (Rows.extentBackSpec.pre6 enc Try.prog Try.f4 Rows.extentBackRow.domain false) (Rows.extentBackSpec.post enc Try.prog Try.f4 false true false false) := by
  refine returnsInHanded_of_change (C := Try.checked) own started (by kernel_rfl) Try.func4
    (ChangeSpec.witness6 (enc := enc) (C := Try.checked) false ⟨#[], #[.int .i64 0, .int .i64 0, .slice none 0 0, .bool false], []⟩ 8 (by kernel_rfl) (by kernel_rfl) (by kernel_rfl) (by kernel_rfl)) ?_
  intro W base args ds gs before hval0 hW hcnd _
  have hval : ∀ (j : Nat) t v, Try.f4.params[j]? = some t → args[j]? = some v → Value.okWide Try.prog W .any base t v := hval0
  have hW' := hW
  obtain ⟨p, q, hA0, hV, rfl, hfz, hnd⟩ := hW
  have hA : DataW.TrodAll enc Try.prog W 0 (fun _ => true) true Try.f4.params.toList args.toList ds p := hA0
  rw [Try.params4] at hA hval
  obtain ⟨v0, vs0, d0, ds0, p0, q0, hargs, rfl, rfl, h0, z0⟩ := trodAll_cons hA
  obtain ⟨v1, vs1, d1, ds1, p1, q1, rfl, rfl, rfl, h1, z1⟩ := trodAll_cons z0
  obtain ⟨v2, vs2, d2, ds2, p2, q2, rfl, rfl, rfl, h2, z2⟩ := trodAll_cons z1
  obtain ⟨v3, vs3, d3, ds3, p3, q3, rfl, rfl, rfl, h3, z3⟩ := trodAll_cons z2
  obtain ⟨rfl, rfl, rfl⟩ := trodAll_nil z3
  obtain rfl : args = #[v0, v1, v2, v3] := by cases args; simp_all
  obtain ⟨rfl, rfl⟩ := trodVars_none hV
  obtain ⟨a0, rfl, rfl, rfl, w0⟩ := open_int Try.underlying3 (hval 0 3 v0 rfl rfl) h0
  obtain ⟨a1, rfl, rfl, rfl, w1⟩ := open_int Try.underlying3 (hval 1 3 v1 rfl rfl) h1
  obtain ⟨a2, len2, cap2, rfl⟩ := okWide_slice Try.underlying22 (hval 2 22 v2 rfl rfl)
  have kk2_ := h2
  have lt2 : ∀ x ∈ p2, x.block < W.heap.size := by obtain ⟨m, hm⟩ := kk2_; exact DataW.trod_lt m _ _ _ hm
  obtain ⟨a3, rfl, rfl, rfl⟩ := open_bool Try.underlying4 (hval 3 4 v3 rfl rfl) h3
  obtain ⟨b2, r2, c2, m2, n2⟩ : ∃ bs : List UInt8, Rd W W.heap.size a2 len2 bs ∧ len2 ≤ cap2 ∧ cap2 ≤ maxLen ∧ (a2 = none → cap2 = 0) := by
    obtain ⟨fuel, hf⟩ := h2
    exact open_byt hf
  obtain rfl : b2.length = len2 := r2.1
  clear hA0 hval0
  refine (walk W a0 (by have := bounds_i64 w0; omega) a1 (by have := bounds_i64 w1; omega) a2 cap2 b2 r2 c2 m2 n2 a3).mono fun e W' ⟨he, bel⟩ => ?_
  subst he
  exact ⟨_, rfl, _, _, _, [], _, [], hW', trodAll_mk1 (shut_bool Try.underlying4 _), (trodAll_cons_mk (shut_int Try.underlying3 w0) (trodAll_cons_mk (shut_int Try.underlying3 w1) (trodAll_cons_mk (Below.trod laidOut (by kernel_rfl) (of_decide_eq_true (by kernel_rfl)) kk2_ bel lt2) (trodAll_cons_mk (shut_bool Try.underlying4 _) trodAll_mk0)))), rfl, bel.frame _, fun h => by cases h⟩

theorem over : Rows.extentBackRow.holds Try.pinned (OpenSpec.ofChange Rows.extentBackSpec) :=
  OpenClaim.holds_of_wide 4 Try.f4 rfl rfl rfl rfl rfl rfl rfl ⟨rfl, rfl, rfl, rfl, rfl⟩ rfl rfl rfl rfl rfl (by kernel_rfl) Try.func4 (by kernel_rfl)
    (of_decide_eq_true (by kernel_rfl)) (by unfold Func.isWrapper; first | (rw [if_pos (by decide +kernel)]; kernel_rfl) | (rw [if_neg (by decide +kernel)]; exact ⟨rfl, rfl⟩))
    (fun os started H enc _ => lifted os started H enc)

theorem proved : Rows.ExtentBackSaid := over
#print axioms proved
end Go.Proofs.Ytkddcfaomaphaaa.extentBack
